/-
  The store: Apply. Conditions: at most 1000 pods, each with at most 1000 amounts.
  The store: Submit where the pod is added. Conditions: at most 1000 pods; errors.errorType holds its own.
-/
import Derived.Test.YtcogiogjpbkeaaaGreatDoorJ0
import Derived.Test.YtcogiogjpbkeaaaGreatDoorJ28
namespace Go.Proofs.YtcogiogjpbkeaaaGreatDoor.T13
open Go.RowKit Go.Sort Go.Lib V12
theorem akt(p e:Int):I64 (nx p e):=by
 unfold nx I64
 repeat' split
 all_goals omega
section
variable{w w':World}{b0:Nat}{s:Int}{q t m:Nat}{A:Option Addr}{c n:Nat}{P:Nat->zaa}
theorem ST.notPod(h:ST w b0 s q t m A c n P){b:Nat}(hT:Typ w b 26)(hg:¬(Value.slice A n c).ownBlock=some b):¬FE q t m A c n P b:=by
 rintro(rfl | rfl | rfl | h1 | ⟨i,hi,h1⟩)
 ·exact absurd (zck hT h.tq) (by decide)
 ·exact absurd (zck hT h.tt) (by decide)
 ·exact h.offT hT rfl
 ·exact hg h1
 ·exact absurd (zck hT (h.tr hi h1)) (by decide)
theorem zqm{D:Nat->Prop}{w0 w:World}{s:Nat}(x:zaa)(k:Fr D w0 w)(hs:w0.heap.size<=s):Fr D w0 (put9 w s x):=
 ((((((((k.set (by right;exact hs) _).set (by right;exact hs) _).set (by right;exact hs) _).set (by right;exact hs) _).set (by right;exact hs) _).set (by right;exact hs) _).set (by right;exact hs) _).set (by right;exact hs) _).set (by right;exact hs) _
theorem zje{w1 Wf w2:World}{b:Nat}(H:ST w b0 s q t m A c n P)(H2:ST w1 b0 s q t m A c n P)(K1:Keep w w1){j:Nat}(hj:j<n){e nd dl:Int}(hx:nx (P j).h e≠0)(hb:b=w.heap.size)
  (Y1:w1.heap[b]?=some (.cells (zac zaf) 26 (0,0))) (F:Fr (fun i=>(Value.slice A n c).ownBlock=some i) w1 Wf) {y:zaa} (hy:zay (P j) e nd dl=y) (R:zas Wf b0 (.slice A n c) n (put P j y)) (k2:Keep Wf w2) {B:Option Addr} {d:Nat} (Rq:Req w2 Wf.heap.size (y.at B d)) :
  w2.heap[b]?=some (.cells (zac zaf) 26 (0,0))/\(put9 w2 b (y.at B d)).heap[b]?=some (.cells (zac (y.at B d)) 26 (0,0))/\Req (put9 w2 b (y.at B d)) w.heap.size (y.at B d)/\ST (put9 w2 b (y.at B d)) b0 s q t m A c n (put P j y)/\Fr (fun i=>(Value.slice A n c).ownBlock=some i) w (put9 w2 b (y.at B d)):=by
 have hgb:¬(Value.slice A n c).ownBlock=some b:=fun e=>by
  have:=(H.lt b (Or.inr (Or.inr (Or.inr (Or.inl e))))).2;omega
 have blt:b<w1.heap.size:=zcl Y1;have Y2:=k2.block ((F.block b blt hgb).trans Y1);have S:ST Wf b0 s q t m A c n (put P j y):=by
  rw[<- hy] at R ⊢;exact H2.app hj hx F R
 have S2:=S.keep k2;have np:=S2.notPod ⟨_,_,Y2⟩ hgb;have sz:=F.size;have sz0:=K1.size;refine⟨Y2,zcp _ zaf Y2,?_,S2.frame fun i hi=>zdd _ fun e=>np (by rw[<- e];exact hi),zqm _ ((Fr.after K1 F).keep k2) (by omega)⟩
 refine own_base' (b:=Wf.heap.size) ?_ (by omega)
 refine zao Rq fun g hg=>zdd _ ?_
 have:=(Rq.lt g hg).1;omega
set_option maxRecDepth 100000 in
set_option maxHeartbeats 8000000 in
theorem zne(h:ST w b0 s q t m A c n P){j:Nat}(hj:j<n)(e nd dl:Int)(hnd:I64 nd)(hdl:I64 dl)(hx:nx (P j).h e≠0)(hm:(P j).m<=1000):
  Calls Tryz.prog 67 #[.pointer (some ⟨q,0,none⟩),.int .i64 (P j).k,.int .i64 e,.int .i64 nd,.int .i64 dl] w fun e' w'=>∃ B d,e'=.returned (.tuple #[((zay (P j) e nd dl).at B d).val,.nilIface])/\Req w' w.heap.size ((zay (P j) e nd dl).at B d)/\zcy ((zay (P j) e nd dl).at B d)/\ST w' b0 s q t m A c n (put P j (zay (P j) e nd dl))/\Fr (fun i=>(Value.slice A n c).ownBlock=some i) w w':=by
 obtain⟨W,hW⟩:=Zn (w.alloc (.cells (zac zaf) 26));have KW:Hid (Keep w W):=by rw[hW];exact Keep.one _ _
 obtain⟨b,hb⟩:=Zn (w.heap.size);have Y:Hid (W.heap[b]?=some (.cells (zac zaf) 26 (0,0))):=by rw[hW,hb];exact heap_alloc_new _ _
 have hsz:Hid (W.heap.size=b+1):=by show _=_;rw[hW,World.size_alloc,hb]
 have h1:=h.keep KW.out;have hF:=Zq (ziy h1 hj);have hN:=Zq (fun W=>zic (P j).h e W)
 have c0:=h1.c0;obtain⟨g,hA,X,_,hown⟩:=h1.at hj;subst hA;have hgb:¬g=b:=fun e=>by have:=(h.lt g (Or.inr (Or.inr (Or.inr (Or.inl hown))))).2;omega
 have q1:=zar g 0 n c j hj;have H1:=Zq h1;have H:=Zq h;obtain⟨x,hxx⟩:=Zn (P j);rw[<- hxx] at hF hN X hx hm ⊢;have hy:Hid (∃ y,y=nx x.h e):=⟨_,rfl⟩;obtain⟨y,hy⟩:=hy.out;have hyr:I64 y:=by rw[hy];exact akt _ _
 have hd:decide (nx x.h e≠0)=true:=decide_eq_true hx;rw[hd,<- hy] at hN;obtain⟨x0,x1,x2,x3,x4,x5,x6,x7,x8⟩:=X;rw[Nat.zero_add] at x0 x1 x2 x3 x4 x5 x6 x7 x8 q1;have hbw:Hid (w.heap.size<=b):=by show _<=_;omega
 have he:e=1\/e=2\/e=3\/e=4\/e=5:=by
  by_cases h1:e=1\/e=2\/e=3\/e=4\/e=5
  ·exact h1
  ·exfalso
   apply hx
   unfold nx
   repeat' split
   all_goals first | rfl | omega
 replace hxx:=Zq hxx;replace hy:=Zq hy;replace hyr:=Zq hyr;have hx':=Zq hx;have hm':=Zq hm;replace hown:=Zq hown;replace hnd:=Zq hnd;replace hdl:=Zq hdl;unfold zac zaf at hW;clear h h1 hx hm hd
 go_enter Tryz.func67,Tryz.ntmps67
 go_wp2_with fail;rw[<- hW,<- hb];replace hW:=Zq hW;replace hb:=Zq hb;refine hF.out.mono ?_;rintro e' w1 ⟨rfl,rfl⟩;go_wp2_with fail;refine(hN.out _).mono ?_;rintro e' w1 ⟨rfl,k1⟩;replace x0:=k1.cell x0;replace x1:=k1.cell x1;replace x2:=k1.cell x2;replace x3:=k1.cell x3;replace x4:=k1.cell x4;replace x5:=k1.cell x5;replace x6:=k1.cell x6;replace x7:=k1.cell x7;replace x8:=k1.cell x8;have H2:=Zq (H1.out.keep k1);have fz:∀ i,w1.frozen? ⟨g,i,none⟩=false:=fun i=>by
  obtain⟨cur,e⟩:=zfp H2.out.rp.row hown.out;exact frozen_of_row w1 g i _ _ e
 have Y1:=Zq (k1.block Y.out);have K1:=Zq (KW.out.trans k1);have sz1:=Zq k1.size;clear k1 c0 q1 H1 Y;rcases he with rfl | rfl | rfl | rfl | rfl
 ·have hv:Hid (zay x 1 nd dl=chg x y nd (-1)):=by show _=_;rw[hy.out];unfold zay chg;simp
  have R3:Hid (zas (((w1.setCell ⟨g,j * 9+6,none⟩ (.int .i64 y)).setCell ⟨g,j * 9+8,none⟩ (.int .i64 (-1))).setCell ⟨g,j * 9+7,none⟩ (.int .i64 nd)) b0 (.slice (some ⟨g,0,none⟩) n c) n (put P j (chg x y nd (-1)))):=by
   have:=H2.out.rp.set3 hj hyr.out hnd.out;rw[<- hxx.out] at this;exact this
  have F3:Hid (Fr (fun i=>(Value.slice (some ⟨g,0,none⟩) n c).ownBlock=some i) w1 (((w1.setCell ⟨g,j * 9+6,none⟩ (.int .i64 y)).setCell ⟨g,j * 9+8,none⟩ (.int .i64 (-1))).setCell ⟨g,j * 9+7,none⟩ (.int .i64 nd))):=zjj rfl
  go_wp2_with fail;obtain⟨Wf,hWf⟩:=Zn ((((w1.setCell ⟨g,j * 9+6,none⟩ (.int .i64 y)).setCell ⟨g,j * 9+8,none⟩ (.int .i64 (-1))).setCell ⟨g,j * 9+7,none⟩ (.int .i64 nd)));rw[<- hWf] at R3 F3 ⊢;replace hWf:=Zq hWf;have pi:zah Wf (chg x y nd (-1)):=by
   have h1:=R3.out.own j hj;have h2:=R3.out.ok j hj;rw[zat] at h1 h2;exact h1.is h2
  have cC:=zdt (chg x y nd (-1)) Wf pi hm'.out;unfold zaa.at zaa.val chg at cC;refine cC.mono ?_;rintro e' w2 ⟨B,d,rfl,R,ok,_,k2⟩;obtain⟨Y2,E1,E2,E3,E4⟩:=zje H.out H2.out K1.out hj (by rw[<- hxx.out];exact hx'.out) hb.out Y1.out F3.out (e:=1) (nd:=nd) (dl:=dl) (y:=(chg x y nd (-1))) (by rw[<- hxx.out,hv.out]) R3.out k2 R
  have E2:=Zq E2;have E3:=Zq E3;have E4:=Zq E4;have ok:=Zq ok;obtain⟨d0,d1,d2,d3,d4,d5,d6,d7,d8,g0⟩:=zae Y2;unfold zaf at d0 d1 d2 d3 d4 d5 d6 d7 d8;have E1:=Zq E1;clear R k2 Y2 pi cC x0 x1 x2 x3 x4 x5 x6 x7 x8 fz;go_wp2;obtain⟨e0,e1,e2,e3,e4,e5,e6,e7,e8,_⟩:=zae E1.out;rw[hv.out];have E:=And.intro E2.out (And.intro ok.out (And.intro E3.out E4.out));unfold put9 zaa.at chg at *;refine bodyPost_ret (v:=.tuple #[.agg #[.int .i64 x.k,.int .i64 x.p,.bool x.f,.int .i64 x.g,.slice B x.m d,.int .i64 x.a,.int .i64 y,.int .i64 nd,.int .i64 (-1)],.nilIface]) (by simp[results,Tryz.results67,go_sem,e0,e1,e2,e3,e4,e5,e6,e7,e8]) rfl ⟨B,d,rfl,E⟩
 ·have hv:Hid (zay x 2 nd dl=chg x y nd (-1)):=by show _=_;rw[hy.out];unfold zay chg;simp
  have R3:Hid (zas (((w1.setCell ⟨g,j * 9+6,none⟩ (.int .i64 y)).setCell ⟨g,j * 9+8,none⟩ (.int .i64 (-1))).setCell ⟨g,j * 9+7,none⟩ (.int .i64 nd)) b0 (.slice (some ⟨g,0,none⟩) n c) n (put P j (chg x y nd (-1)))):=by
   have:=H2.out.rp.set3 hj hyr.out hnd.out;rw[<- hxx.out] at this;exact this
  have F3:Hid (Fr (fun i=>(Value.slice (some ⟨g,0,none⟩) n c).ownBlock=some i) w1 (((w1.setCell ⟨g,j * 9+6,none⟩ (.int .i64 y)).setCell ⟨g,j * 9+8,none⟩ (.int .i64 (-1))).setCell ⟨g,j * 9+7,none⟩ (.int .i64 nd))):=zjj rfl
  go_wp2_with fail;obtain⟨Wf,hWf⟩:=Zn ((((w1.setCell ⟨g,j * 9+6,none⟩ (.int .i64 y)).setCell ⟨g,j * 9+8,none⟩ (.int .i64 (-1))).setCell ⟨g,j * 9+7,none⟩ (.int .i64 nd)));rw[<- hWf] at R3 F3 ⊢;replace hWf:=Zq hWf;have pi:zah Wf (chg x y nd (-1)):=by
   have h1:=R3.out.own j hj;have h2:=R3.out.ok j hj;rw[zat] at h1 h2;exact h1.is h2
  have cC:=zdt (chg x y nd (-1)) Wf pi hm'.out;unfold zaa.at zaa.val chg at cC;refine cC.mono ?_;rintro e' w2 ⟨B,d,rfl,R,ok,_,k2⟩;obtain⟨Y2,E1,E2,E3,E4⟩:=zje H.out H2.out K1.out hj (by rw[<- hxx.out];exact hx'.out) hb.out Y1.out F3.out (e:=2) (nd:=nd) (dl:=dl) (y:=(chg x y nd (-1))) (by rw[<- hxx.out,hv.out]) R3.out k2 R
  have E2:=Zq E2;have E3:=Zq E3;have E4:=Zq E4;have ok:=Zq ok;obtain⟨d0,d1,d2,d3,d4,d5,d6,d7,d8,g0⟩:=zae Y2;unfold zaf at d0 d1 d2 d3 d4 d5 d6 d7 d8;have E1:=Zq E1;clear R k2 Y2 pi cC x0 x1 x2 x3 x4 x5 x6 x7 x8 fz;go_wp2;obtain⟨e0,e1,e2,e3,e4,e5,e6,e7,e8,_⟩:=zae E1.out;rw[hv.out];have E:=And.intro E2.out (And.intro ok.out (And.intro E3.out E4.out));unfold put9 zaa.at chg at *;refine bodyPost_ret (v:=.tuple #[.agg #[.int .i64 x.k,.int .i64 x.p,.bool x.f,.int .i64 x.g,.slice B x.m d,.int .i64 x.a,.int .i64 y,.int .i64 nd,.int .i64 (-1)],.nilIface]) (by simp[results,Tryz.results67,go_sem,e0,e1,e2,e3,e4,e5,e6,e7,e8]) rfl ⟨B,d,rfl,E⟩
 ·have hv:Hid (zay x 3 nd dl=chg x y (-1) (-1)):=by show _=_;rw[hy.out];unfold zay chg;simp
  have m1:I64 (-1):=by unfold I64;omega
  have R3:Hid (zas (((w1.setCell ⟨g,j * 9+6,none⟩ (.int .i64 y)).setCell ⟨g,j * 9+8,none⟩ (.int .i64 (-1))).setCell ⟨g,j * 9+7,none⟩ (.int .i64 (-1))) b0 (.slice (some ⟨g,0,none⟩) n c) n (put P j (chg x y (-1) (-1)))):=by
   have:=H2.out.rp.set3 hj hyr.out m1;rw[<- hxx.out] at this;exact this
  have F3:Hid (Fr (fun i=>(Value.slice (some ⟨g,0,none⟩) n c).ownBlock=some i) w1 (((w1.setCell ⟨g,j * 9+6,none⟩ (.int .i64 y)).setCell ⟨g,j * 9+8,none⟩ (.int .i64 (-1))).setCell ⟨g,j * 9+7,none⟩ (.int .i64 (-1)))):=zjj rfl
  replace m1:=Zq m1;go_wp2_with fail;obtain⟨Wf,hWf⟩:=Zn ((((w1.setCell ⟨g,j * 9+6,none⟩ (.int .i64 y)).setCell ⟨g,j * 9+8,none⟩ (.int .i64 (-1))).setCell ⟨g,j * 9+7,none⟩ (.int .i64 (-1))));rw[<- hWf] at R3 F3 ⊢;replace hWf:=Zq hWf;have pi:zah Wf (chg x y (-1) (-1)):=by
   have h1:=R3.out.own j hj;have h2:=R3.out.ok j hj;rw[zat] at h1 h2;exact h1.is h2
  have cC:=zdt (chg x y (-1) (-1)) Wf pi hm'.out;unfold zaa.at zaa.val chg at cC;refine cC.mono ?_;rintro e' w2 ⟨B,d,rfl,R,ok,_,k2⟩;obtain⟨Y2,E1,E2,E3,E4⟩:=zje H.out H2.out K1.out hj (by rw[<- hxx.out];exact hx'.out) hb.out Y1.out F3.out (e:=3) (nd:=nd) (dl:=dl) (y:=(chg x y (-1) (-1))) (by rw[<- hxx.out,hv.out]) R3.out k2 R
  have E2:=Zq E2;have E3:=Zq E3;have E4:=Zq E4;have ok:=Zq ok;obtain⟨d0,d1,d2,d3,d4,d5,d6,d7,d8,g0⟩:=zae Y2;unfold zaf at d0 d1 d2 d3 d4 d5 d6 d7 d8;have E1:=Zq E1;clear R k2 Y2 pi cC x0 x1 x2 x3 x4 x5 x6 x7 x8 fz;go_wp2;obtain⟨e0,e1,e2,e3,e4,e5,e6,e7,e8,_⟩:=zae E1.out;rw[hv.out];have E:=And.intro E2.out (And.intro ok.out (And.intro E3.out E4.out));unfold put9 zaa.at chg at *;refine bodyPost_ret (v:=.tuple #[.agg #[.int .i64 x.k,.int .i64 x.p,.bool x.f,.int .i64 x.g,.slice B x.m d,.int .i64 x.a,.int .i64 y,.int .i64 (-1),.int .i64 (-1)],.nilIface]) (by simp[results,Tryz.results67,go_sem,e0,e1,e2,e3,e4,e5,e6,e7,e8]) rfl ⟨B,d,rfl,E⟩
 ·have hv:Hid (zay x 4 nd dl=chg x y x.d dl):=by show _=_;rw[hy.out];unfold zay chg;simp
  have R3:Hid (zas (((w1.setCell ⟨g,j * 9+6,none⟩ (.int .i64 y)).setCell ⟨g,j * 9+8,none⟩ (.int .i64 (-1))).setCell ⟨g,j * 9+8,none⟩ (.int .i64 dl)) b0 (.slice (some ⟨g,0,none⟩) n c) n (put P j (chg x y x.d dl))):=by
   have:=H2.out.rp.setT hj hyr.out hdl.out;rw[<- hxx.out] at this;exact this
  have F3:Hid (Fr (fun i=>(Value.slice (some ⟨g,0,none⟩) n c).ownBlock=some i) w1 (((w1.setCell ⟨g,j * 9+6,none⟩ (.int .i64 y)).setCell ⟨g,j * 9+8,none⟩ (.int .i64 (-1))).setCell ⟨g,j * 9+8,none⟩ (.int .i64 dl))):=zjj rfl
  have z8:=(zcg R3.out.row hj).e8;rw[zat,Nat.zero_add] at z8;unfold chg at z8
  dsimp only at z8
  go_wp2_with fail;obtain⟨Wf,hWf⟩:=Zn ((((w1.setCell ⟨g,j * 9+6,none⟩ (.int .i64 y)).setCell ⟨g,j * 9+8,none⟩ (.int .i64 (-1))).setCell ⟨g,j * 9+8,none⟩ (.int .i64 dl)));rw[<- hWf] at R3 F3 ⊢;replace hWf:=Zq hWf;have pi:zah Wf (chg x y x.d dl):=by
   have h1:=R3.out.own j hj;have h2:=R3.out.ok j hj;rw[zat] at h1 h2;exact h1.is h2
  have cC:=zdt (chg x y x.d dl) Wf pi hm'.out;unfold zaa.at zaa.val chg at cC;refine cC.mono ?_;rintro e' w2 ⟨B,d,rfl,R,ok,_,k2⟩;obtain⟨Y2,E1,E2,E3,E4⟩:=zje H.out H2.out K1.out hj (by rw[<- hxx.out];exact hx'.out) hb.out Y1.out F3.out (e:=4) (nd:=nd) (dl:=dl) (y:=(chg x y x.d dl)) (by rw[<- hxx.out,hv.out]) R3.out k2 R
  have E2:=Zq E2;have E3:=Zq E3;have E4:=Zq E4;have ok:=Zq ok;obtain⟨d0,d1,d2,d3,d4,d5,d6,d7,d8,g0⟩:=zae Y2;unfold zaf at d0 d1 d2 d3 d4 d5 d6 d7 d8;have E1:=Zq E1;clear R k2 Y2 pi cC x0 x1 x2 x3 x4 x5 x6 x7 x8 fz;go_wp2;obtain⟨e0,e1,e2,e3,e4,e5,e6,e7,e8,_⟩:=zae E1.out;rw[hv.out];have E:=And.intro E2.out (And.intro ok.out (And.intro E3.out E4.out));unfold put9 zaa.at chg at *;refine bodyPost_ret (v:=.tuple #[.agg #[.int .i64 x.k,.int .i64 x.p,.bool x.f,.int .i64 x.g,.slice B x.m d,.int .i64 x.a,.int .i64 y,.int .i64 x.d,.int .i64 dl],.nilIface]) (by simp[results,Tryz.results67,go_sem,e0,e1,e2,e3,e4,e5,e6,e7,e8]) rfl ⟨B,d,rfl,E⟩
 ·have hv:Hid (zay x 5 nd dl=chg x y (-1) (-1)):=by show _=_;rw[hy.out];unfold zay chg;simp
  have m1:I64 (-1):=by unfold I64;omega
  have R3:Hid (zas (((w1.setCell ⟨g,j * 9+6,none⟩ (.int .i64 y)).setCell ⟨g,j * 9+8,none⟩ (.int .i64 (-1))).setCell ⟨g,j * 9+7,none⟩ (.int .i64 (-1))) b0 (.slice (some ⟨g,0,none⟩) n c) n (put P j (chg x y (-1) (-1)))):=by
   have:=H2.out.rp.set3 hj hyr.out m1;rw[<- hxx.out] at this;exact this
  have F3:Hid (Fr (fun i=>(Value.slice (some ⟨g,0,none⟩) n c).ownBlock=some i) w1 (((w1.setCell ⟨g,j * 9+6,none⟩ (.int .i64 y)).setCell ⟨g,j * 9+8,none⟩ (.int .i64 (-1))).setCell ⟨g,j * 9+7,none⟩ (.int .i64 (-1)))):=zjj rfl
  replace m1:=Zq m1;go_wp2_with fail;obtain⟨Wf,hWf⟩:=Zn ((((w1.setCell ⟨g,j * 9+6,none⟩ (.int .i64 y)).setCell ⟨g,j * 9+8,none⟩ (.int .i64 (-1))).setCell ⟨g,j * 9+7,none⟩ (.int .i64 (-1))));rw[<- hWf] at R3 F3 ⊢;replace hWf:=Zq hWf;have pi:zah Wf (chg x y (-1) (-1)):=by
   have h1:=R3.out.own j hj;have h2:=R3.out.ok j hj;rw[zat] at h1 h2;exact h1.is h2
  have cC:=zdt (chg x y (-1) (-1)) Wf pi hm'.out;unfold zaa.at zaa.val chg at cC;refine cC.mono ?_;rintro e' w2 ⟨B,d,rfl,R,ok,_,k2⟩;obtain⟨Y2,E1,E2,E3,E4⟩:=zje H.out H2.out K1.out hj (by rw[<- hxx.out];exact hx'.out) hb.out Y1.out F3.out (e:=5) (nd:=nd) (dl:=dl) (y:=(chg x y (-1) (-1))) (by rw[<- hxx.out,hv.out]) R3.out k2 R
  have E2:=Zq E2;have E3:=Zq E3;have E4:=Zq E4;have ok:=Zq ok;obtain⟨d0,d1,d2,d3,d4,d5,d6,d7,d8,g0⟩:=zae Y2;unfold zaf at d0 d1 d2 d3 d4 d5 d6 d7 d8;have E1:=Zq E1;clear R k2 Y2 pi cC x0 x1 x2 x3 x4 x5 x6 x7 x8 fz;go_wp2;obtain⟨e0,e1,e2,e3,e4,e5,e6,e7,e8,_⟩:=zae E1.out;rw[hv.out];have E:=And.intro E2.out (And.intro ok.out (And.intro E3.out E4.out));unfold put9 zaa.at chg at *;refine bodyPost_ret (v:=.tuple #[.agg #[.int .i64 x.k,.int .i64 x.p,.bool x.f,.int .i64 x.g,.slice B x.m d,.int .i64 x.a,.int .i64 y,.int .i64 (-1),.int .i64 (-1)],.nilIface]) (by simp[results,Tryz.results67,go_sem,e0,e1,e2,e3,e4,e5,e6,e7,e8]) rfl ⟨B,d,rfl,E⟩
end
end Go.Proofs.YtcogiogjpbkeaaaGreatDoor.T13
namespace Go.Proofs.YtcogiogjpbkeaaaGreatDoor.T13
open Go.RowKit Go.Sort Go.Lib V12
def sbV(x:zaa)(B:Option Addr)(d:Nat)(a:Int):zaa:=⟨x.k,x.p,x.f,x.g,B,x.m,d,x.Z,a,1,-1,-1⟩
theorem alj{x:zaa}{B:Option Addr}{d:Nat}{a:Int}(o:zcy (x.at B d))(ha:I64 a):zcy (sbV x B d a):=⟨o.small,o.range,o.nil,o.rng.1,o.rng.2.1,o.rng.2.2.1,ha,(by unfold I64;omega:I64 1),(by unfold I64;omega:I64 (-1)),(by unfold I64;omega:I64 (-1))⟩
theorem akr(x:zaa)(B:Option Addr)(d:Nat)(a:Int):nm (sbV x B d a)=zhi x a:=rfl
def zml(w:World)(b:Nat)(x:zaa)(a:Int):World:=((((put9 w b x).setCell ⟨b,5,none⟩ (.int .i64 a)).setCell ⟨b,6,none⟩ (.int .i64 1)).setCell ⟨b,7,none⟩ (.int .i64 (-1))).setCell ⟨b,8,none⟩ (.int .i64 (-1))
theorem zxs{w:World}{b:Nat}(x z:zaa)(a:Int){T:TypeId}(h:w.heap[b]?=some (.cells (zac z) T (0,0))):(zml w b x a).heap[b]?=some (.cells (zac (sbV x x.A x.c a)) T (0,0)):=
 (zch (zch (zch (zch (zcp x z h)).2.2.2.2.2.1).2.2.2.2.2.2.1).2.2.2.2.2.2.2.1).2.2.2.2.2.2.2.2
theorem ziu{w:World}{b k:Nat}(x:zaa)(a:Int)(h:k≠b):(zml w b x a).heap[k]?=w.heap[k]?:=by
 unfold zml;rw[Below.heap_setCell _ _ _ _ h,Below.heap_setCell _ _ _ _ h,Below.heap_setCell _ _ _ _ h,Below.heap_setCell _ _ _ _ h,zdd x h]
theorem afm{D:Nat->Prop}{w0 w:World}{b:Nat}(x:zaa)(a:Int)(k:Fr D w0 w)(hs:w0.heap.size<=b):Fr D w0 (zml w b x a):=
 ((((zqm x k hs).set (by right;exact hs) _).set (by right;exact hs) _).set (by right;exact hs) _).set (by right;exact hs) _
structure Mid(w:World)(b0:Nat)(s:Int)(q t m:Nat)(A:Option Addr)(c n:Nat)(P:Nat->zaa)(k:Int):Prop where
 hq:w.heap[q]?=some (.cells #[.slice A n c,.pointer (some ⟨t,0,none⟩)] 139 (0,0))
 tb:TMI w (if 0<=s then s else 0) t m (prs P n++[(k,.int .i64 n)])
 rp:zas w b0 (.slice A n c) n P
section
variable{w w':World}{b0:Nat}{s:Int}{q t m:Nat}{A:Option Addr}{c n:Nat}{P:Nat->zaa}{k:Int}
theorem Mid.of(h:ST w b0 s q t m A c n P)(f:Fr (·=m) w w')(ht:TMI w' (if 0<=s then s else 0) t m (prs P n++[(k,.int .i64 n)])):Mid w' b0 s q t m A c n P k :=
 ⟨(f.block _ (zcl h.hq) (h.offT h.tq)).trans h.hq,ht,zao h.rp.row (fun g hg=>f.block _ (h.rp.row.lt g hg).2 (h.offT (h.tg hg))),fun j hj=>zao (h.rp.own j hj) (fun g hg=>f.block _ ((h.rp.own j hj).lt g hg).2 (h.offT (h.tr hj hg))),h.rp.ok⟩
theorem Mid.frame(h:Mid w b0 s q t m A c n P k)(f:∀ i,FE q t m A c n P i->w'.heap[i]?=w.heap[i]?):Mid w' b0 s q t m A c n P k :=
 ⟨(f q (Or.inl rfl)).trans h.hq,⟨(f t (Or.inr (Or.inl rfl))).trans h.tb.hp,h.tb.mp.of (f m (Or.inr (Or.inr (Or.inl rfl)))),h.tb.lo,h.tb.hi,h.tb.len⟩,zao h.rp.row fun g hg=>f g (Or.inr (Or.inr (Or.inr (Or.inl hg)))),fun j hj=>zao (h.rp.own j hj) fun g hg=>f g (Or.inr (Or.inr (Or.inr (Or.inr ⟨j,hj,hg⟩)))),h.rp.ok⟩
theorem Mid.keep(h:Mid w b0 s q t m A c n P k)(kp:Keep w w'):Mid w' b0 s q t m A c n P k:=⟨kp.block h.hq,h.tb.keep kp,h.rp.keep kp⟩
theorem Mid.offm(h:Mid w b0 s q t m A c n P k){b:Nat}{T:TypeId}(hT:Typ w b T):¬b=m:=fun e=>by
 obtain⟨es,x,e2,_⟩:=h.tb.mp.length_le;obtain⟨cs,loc,e3⟩:=hT;rw[e,e2] at e3;cases e3
theorem Mid.fin{W W1:World}(H:ST w b0 s q t m A c n P)(h:Mid W b0 s q t m A c n P k)(kp:Keep W W1){y:zaa}(hk:y.k=k)(hR:Req W b0 y)(ok:zcy y){A':Option Addr}{c':Nat}(hr:w'.ownsRow b0 26 9 (.slice A' (n+1) c') (n+1) (zaj P n++y.cells))(hg:W1.grownBy w' (Value.slice A n c).ownBlock)(lk:LOk ((lst (put P n y) (n+1)).map nm)):
  ST (w'.setCell ⟨q,0,none⟩ (.slice A' (n+1) c')) b0 s q t m A' c' (n+1) (put P n y):=by
 have h1:=h.keep kp;have tq:Typ W1 q 139:=⟨_,_,h1.hq⟩;have tt:Typ W1 t 183:=⟨_,_,h1.tb.hp⟩;have tg:∀ g,(Value.slice A n c).ownBlock=some g->Typ W1 g 26:=fun g hg=>zcn h1.rp.row hg
 have bl:∀ i T,Typ W1 i T->T≠26->w'.heap[i]?=W1.heap[i]?:=fun i T hT hne=>hg.block i hT.lt fun e=>hne (zck hT (tg i e.symm))
 have bq:=bl q _ tq (by decide)
 have bm:w'.heap[m]?=W1.heap[m]?:=hg.block m h1.tb.mlt fun e=>h1.offm (tg m e.symm) rfl
 have R:=h1.rp.more (zal hR kp) ok hr hg;have o:∀ i,i≠q->(w'.setCell ⟨q,0,none⟩ (.slice A' (n+1) c')).heap[i]?=w'.heap[i]?:=fun i hi=>Below.heap_setCell _ _ _ _ hi
 have tq':Typ w' q 139:=tq.same bq;have nt:t≠q:=fun e=>absurd (zck tt (by rw[e];exact tq)) (by decide)
 have nmq:m≠q:=fun e=>h1.offm tq e.symm
 have hl:=h1.tb;refine⟨heap_setCell_same _ _ _ _ _ _ (bq.trans h1.hq),⟨?_,?_,hl.lo,hl.hi,?_⟩,⟨?_,fun j hj=>?_,R.ok⟩,H.bq,H.bt,H.bm,lk⟩
 ·rw[o t nt,bl t _ tt (by decide)];exact hl.hp
 ·rw[aby,hk]
  exact hl.mp.of ((o m nmq).trans bm)
 ·have:=hl.len
  rw[List.length_append,zju] at this;rw[zju];exact this
 ·exact zao R.row fun g hg=>o g fun e=>absurd (zck (zcn R.row hg) (show Typ w' g 139 by rw[e];exact tq')) (by decide)
 ·exact zao (R.own j hj) fun g hg=>o g fun e=>absurd (zck (zcn (R.own j hj) hg) (show Typ w' g 139 by rw[e];exact tq')) (by decide)
theorem zwo{y x:zaa}(hy:nm y=zhi x n):(lst (put P n y) (n+1)).map nm=(lst P n).map nm++[zhi x n]:=by
 rw[zib,List.map_append,List.map_singleton,hy]
theorem zah.off{x:zaa}(g:zah w x)(h:ST w b0 s q t m A c n P)(f:Fr (·=m) w w'):zah w' x :=
 ⟨⟨g.rd.small,g.rd.range,fun hn=>by
   obtain⟨b,off,e,hc⟩:=g.rd.adr hn
   exact⟨b,off,e,fun j hj=>f.cell (hc j hj) (h.off (hc j hj))⟩⟩,g.nil,g.rng⟩
end
theorem zhq{W:World}{k:Nat}{x:zaa}(h:W.heap[k]?=some (.cells (zac x) 26 (0,0))):∀ j u,x.cells[j]?=some u->W.cell? ((⟨k,0,none⟩:Addr).add j)=some u:=by
 intro j u hu;rw[WideShapes.add_plain,Nat.zero_add,cell_of_row W k j _ _ _ h];show x.cells.toArray[j]?=some u
 rw[List.getElem?_toArray];exact hu
section
variable{ops:Array Oper}{o:Oper}{a:Act}{w:World}{K:Act->World->Prop}{Q:Exit->Act->World->Prop}{E:Prop}
theorem zzh{W0:World}(k0:Keep W0 w)(hgd:o.guard=none)(s x:Operand)(ho:o.op=.call { callee:=.builtin .append,args:=#[s,x],argTypes:=#[28,28] })
  (base:Nat) (v:Value) (n:Nat) (xs:List Value) (hs:a.eval s=v) (hown:w.ownsRow base 26 9 v n xs) (ad:Addr) (news:List Value) (hx:a.eval x=.slice (some ad) 1 1) (hl:news.length=9) (hnews:∀ j u,news[j]?=some u->w.cell? (ad.add j)=some u) (h1:∀ u∈news,u.oneCell'=true)
  (hlim:n<=1048576) (hbase:base<=w.heap.size)
  (h:∀ g cap w',Keep W0 w->w'.ownsRow base 26 9 (.slice (some ⟨g,0,none⟩) (n+1) cap) (n+1) (xs++news)->w.grownBy w' v.ownBlock->(v.ownBlock=some g\/g=w.heap.size)->g<w'.heap.size->K (a.put o.dst (.slice (some ⟨g,0,none⟩) (n+1) cap)) w') :
  if Region.wanted o (yielded ops a.tmps)=true then Oper.wp Tryz.prog o a w K Q else E:=by
 obtain⟨i0,hi0,hz0,hz1,hz2⟩:=info_parts Tryz.tyP13.info;exact step_append_lies (P:=Tryz.prog) w hgd s x 28 ho base 26 i0 _ 9 88 Tryz.underlying28 hi0 hz0 hz1 hz2 rfl (by decide) v n xs hs hown ad 1 1 news hx (by rw[hl]) hnews h1 (by omega) (by unfold maxLen;omega) (by omega) hbase _ rfl fun g cap w'=>h g cap w' k0
end
section
variable{w w':World}{b0:Nat}{s:Int}{q t m:Nat}{A:Option Addr}{c n:Nat}{P:Nat->zaa}{k:Int}
theorem ain{W9 W1 w4:World}{bx b:Nat}{y:zaa}{X Z:Array Value}(H:ST w b0 s q t m A c n P)(hb0:b0<=w.heap.size)(M:Mid W9 b0 s q t m A c n P k)(F:Fr (·=m) w W9)(hbx:w.heap.size<=bx)(B:W9.heap[bx]?=some (.cells X 26 (0,0)))(hbz:w.heap.size<=b)(Zh:W9.heap[b]?=some (.cells Z 26 (0,0)))
  (kp:Keep W9 W1) (hk:y.k=k) (R:Req W9 w.heap.size y) (ok:zcy y) {g c':Nat} (hr:w4.ownsRow b0 26 9 (.slice (some ⟨g,0,none⟩) (n+1) c') (n+1) (zaj P n++y.cells)) (hg:W1.grownBy w4 (Value.slice A n c).ownBlock) (hl:(Value.slice A n c).ownBlock=some g\/g=W1.heap.size) (lk:LOk ((lst (put P n y) (n+1)).map nm)) :
  ST (w4.setCell ⟨q,0,none⟩ (.slice (some ⟨g,0,none⟩) (n+1) c')) b0 s q t m (some ⟨g,0,none⟩) c' (n+1) (put P n y)/\Fr (FE q t m A c n P) w (w4.setCell ⟨q,0,none⟩ (.slice (some ⟨g,0,none⟩) (n+1) c')) /\
  (w4.setCell ⟨q,0,none⟩ (.slice (some ⟨g,0,none⟩) (n+1) c')).heap[bx]?=some (.cells X 26 (0,0))/\(w4.setCell ⟨q,0,none⟩ (.slice (some ⟨g,0,none⟩) (n+1) c')).heap[b]?=some (.cells Z 26 (0,0)) /\
  (∀ i,FE q t m (some ⟨g,0,none⟩) c' (n+1) (put P n y) i->FE q t m A c n P i\/w.heap.size<=i)/\¬(Value.slice (some ⟨g,0,none⟩) (n+1) c').ownBlock=some b:=by
 have ltF:=H.lt;have s1:=F.size;have s2:=kp.size;have s3:=hg.size;have nr:∀ i,w.heap.size<=i->(some i:Option Nat)≠(Value.slice A n c).ownBlock:=fun i hi e=>by
  have:=(ltF i (Or.inr (Or.inr (Or.inr (Or.inl e.symm))))).2;omega
 have nq:∀ i,w.heap.size<=i->i≠q:=fun i hi e=>by
  have:=(ltF q (Or.inl rfl)).2;omega
 have tail:∀ i o,w.heap.size<=i->W9.heap[i]?=some o->(w4.setCell ⟨q,0,none⟩ (.slice (some ⟨g,0,none⟩) (n+1) c')).heap[i]?=some o:=fun i o hi e=>by
  rw[Below.heap_setCell _ _ _ _ (nq i hi),hg.block i (Nat.lt_of_lt_of_le (zcl e) s2) (nr i hi)];exact kp.block e
 refine⟨Mid.fin H M kp hk (zbx R hb0) ok hr hg lk,?_,tail bx _ hbx B,tail b _ hbz Zh,?_,fun e=>?_⟩
 ·refine Fr.set ?_ (by left;exact Or.inl rfl) _
  exact(((F.less fun i e=>Or.inr (Or.inr (Or.inl e))).keep kp).same (Fr.grown hg fun i e=>Or.inl (Or.inr (Or.inr (Or.inr (Or.inl e))))))
 ·rintro i (h1 | h1 | h1 | h1 | ⟨j,hj,h1⟩)
  ·exact Or.inl (Or.inl h1)
  ·exact Or.inl (Or.inr (Or.inl h1))
  ·exact Or.inl (Or.inr (Or.inr (Or.inl h1)))
  ·have e:g=i:=by simpa [Value.ownBlock] using h1
   rcases hl with hl | hl
   ·exact Or.inl (Or.inr (Or.inr (Or.inr (Or.inl (by rw[<- e];exact hl)))))
   ·exact Or.inr (by omega)
  ·by_cases e:j=n
   ·rw[e,zat] at h1
    exact Or.inr (R.lt i h1).1
   ·rw[zbj _ _ _ e] at h1
    exact Or.inl (Or.inr (Or.inr (Or.inr (Or.inr ⟨j,by omega,h1⟩))))
 ·have e2:g=b:=by simpa [Value.ownBlock] using e
  have h2:=zcl Zh;rcases hl with hl | hl
  ·exact nr b hbz (by rw[hl,e2])
  ·omega
end
section
variable{w w':World}{b0:Nat}{s:Int}{q t m:Nat}{A:Option Addr}{c n:Nat}{P:Nat->zaa}{k:Int}
set_option maxRecDepth 100000 in
set_option maxHeartbeats 16000000 in
theorem zqk(h:ST w b0 s q t m A c n P)(x:zaa)(hx:zah w x)(hm:x.m<=1000)(hn:n<=1000)(hk:x.k∉keys (lst P n))(hs:(n:Int)<s)(hb0:b0<=w.heap.size):
  Calls Tryz.prog 60 #[.pointer (some ⟨q,0,none⟩),x.val] w fun e w'=>∃ B d B2 d2 z A' c',e=.returned (.tuple #[(sbV x B2 d2 n).val,.nilIface])/\zcy (sbV x B2 d2 n)/\Req w' z (sbV x B2 d2 n)/\w.heap.size<=z/\ST w' b0 s q t m A' c' (n+1) (put P n (sbV x B d n))/\(∀ i,FE q t m A' c' (n+1) (put P n (sbV x B d n)) i->(FE q t m A c n P i\/w.heap.size<=i)/\i<z)/\Fr (FE q t m A c n P) w w':=by
 have mixed:Tryz.prog.follows .mixedOrders=true:=by kernel_rfl
 obtain⟨W0,hW0⟩:=Zn (w.alloc (.cells (zac x) 26));obtain⟨W,hW⟩:=Zn (W0.alloc (.cells (zac zaf) 26));have KW:Hid (Keep w W):=by rw[hW,hW0];exact(Keep.one _ _).alloc _
 obtain⟨bx,hbx⟩:=Zn (w.heap.size);obtain⟨b,hb⟩:=Zn (w.heap.size+1);have hbz:W0.heap.size=b:=by rw[hW0,World.size_alloc,hb]
 have Y:Hid (W.heap[b]?=some (.cells (zac zaf) 26 (0,0))):=by show _=_;rw[hW,<- hbz];exact heap_alloc_new _ _
 have YX:Hid (W.heap[bx]?=some (.cells (zac x) 26 (0,0))):=by show _=_;rw[hW,hW0,hbx];exact(Keep.one _ _).block (heap_alloc_new _ _)
 have x0:=(zae YX.out).e0;have h1:=h.keep KW.out;have c0:=h1.c0;have c1:=h1.c1;have hc1:¬q=m:=h.offT h.tq;have hcx:¬bx=m:=by have:=(h.lt m (Or.inr (Or.inr (Or.inl rfl)))).2;omega
 have lk:Hid (∀ y,nm y=zhi x n->LOk ((lst (put P n y) (n+1)).map nm)):=fun y hy=>by
  have hl:((lst P n).map nm).length=n:=by rw[List.length_map,lst_len]
  have hc:zez ((lst P n).map nm) s x=0:=by
   unfold zez;rw[zbq,if_neg hk,hl,if_neg (by omega)]
  have:=zxi (s:=s) (x:=x) h.lk;unfold zfs at this;rw[if_pos hc,hl] at this;rw[zwo hy];exact this
 have cA:Hid (∀ W',Keep W W'->Calls Tryz.prog 98 #[.pointer (some ⟨t,0,none⟩),.int .i64 x.k,.int .i64 n] W' fun e w'=>e=.returned .nilIface/\TMI w' (if 0<=s then s else 0) t m (prs P n++[(x.k,.int .i64 n)])/\Fr (·=m) W' w'):=fun W' k=>zzm (h1.keep k).tb x.k n (zfi hk) (by rw[zju];split<;>omega)
 have cC:Hid (∀ W',Calls Tryz.prog 97 #[.nilIface] W' fun e w'=>e=.returned (.tuple #[.int .i64 0,.bool false])/\Keep W' w'):=fun W'=>zro W'
 have hx':=Zq hx;have hm':=Zq hm;have H:=Zq h;have H1:=Zq h1;have hnI:Hid (I64 n):=by show I64 _;unfold I64;omega
 have hn':=Zq hn;have hb0':=Zq hb0;unfold zac at hW hW0;unfold zaf at hW;have c0e:=c0;rw[hW,hW0] at c0e;unfold zaa.val;clear h h1 hx hk hm hs
 go_enter Tryz.func60,Tryz.ntmps60
 go_wp2_with fail;clear c0e;rw[<- hW0,<- hW,<- hb];try rw[<- hbx]
 replace hW:=Zq hW;replace hW0:=Zq hW0;replace hb:=Zq hb;replace hbx:=Zq hbx;replace hbz:=Zq hbz;have hc1:=Zq hc1;have hcx:=Zq hcx
 go_region_held3 (fun w'=>w'.cell? ⟨q,1,none⟩=some (.pointer (some ⟨t,0,none⟩))/\w'.cell? ⟨bx,0,none⟩=some (.int .i64 x.k))
  (first
   | ((refine(fun (KK:Keep W _)=>⟨KK.cell c1,KK.cell x0⟩) ?_;repeat (with_reducible first | exact Keep.refl W | apply Keep.drew | apply Keep.drewN));done)
   | ((refine(fun (KK:Keep w6 _)=>⟨KK.cell s6.out.1,KK.cell s6.out.2⟩) ?_;repeat (with_reducible first | exact Keep.refl w6 | apply Keep.drew | apply Keep.drewN | exact k7.out));done))
  (first
   | (go_at_call 98;refine(cA.out _ (by repeat (with_reducible first | exact Keep.refl W | apply Keep.drew | apply Keep.drewN))).mono ?_;rintro e w6 ⟨rfl,T6,f6⟩;have F6:Hid (Fr (·=m) W w6):=Fr.after (by repeat (with_reducible first | exact Keep.refl W | apply Keep.drew | apply Keep.drewN)) f6;replace T6:=Zq T6;replace f6:=Zq f6;have s6:Hid (w6.cell? ⟨q,1,none⟩=some (.pointer (some ⟨t,0,none⟩))/\w6.cell? ⟨bx,0,none⟩=some (.int .i64 x.k)):=⟨F6.out.cell c1 hc1.out,F6.out.cell x0 hcx.out⟩)
   | (go_at_call 97;refine(cC.out _).mono ?_;rintro e w7 ⟨rfl,k7⟩;replace k7:=Zq ((by repeat (with_reducible first | exact Keep.refl w6 | apply Keep.drew | apply Keep.drewN):Keep w6 _).trans k7)))
 all_goals
  have M7:Hid (Mid w7 b0 s q t m A c n P x.k):=(Mid.of H1.out F6.out T6.out).keep k7.out;have F7:Hid (Fr (·=m) W w7):=F6.out.keep k7.out
  have X7:Hid (w7.heap[bx]?=some (.cells (zac x) 26 (0,0))):=(F7.out.block bx (zcl YX.out) hcx.out).trans YX.out;clear c0 c1 x0 cA cC F6 T6 f6 s6 k7;obtain⟨x0,x1,x2,x3,x4,x5,x6,x7,x8,xf⟩:=zae X7.out;have cP:=zdt x w7 (hx'.out.off H.out (Fr.after KW.out F7.out)) hm'.out;unfold zaa.at zaa.val at cP;go_wp2_with fail;refine cP.mono ?_;rintro e w8 ⟨B,d,rfl,R8,ok8,_,k8⟩;have X8:=k8.block X7.out;obtain⟨d0,d1,d2,d3,d4,d5,d6,d7,d8,g0⟩:=zae X8;have M8:=M7.out.keep k8;have F8:Fr (·=m) w w8:=(Fr.after KW.out F7.out).keep k8
  have ltF:=H.out.lt;have hbxl:∀ i,FE q t m A c n P i->i≠bx:=fun i hi e=>by have:=(ltF i hi).2;have:=hbx.out;omega
  have B9:Hid ((zml w8 bx (x.at B d) n).heap[bx]?=some (.cells (zac (sbV x B d n)) 26 (0,0))):=zxs _ x n X8;have M9:Hid (Mid (zml w8 bx (x.at B d) n) b0 s q t m A c n P x.k):=M8.frame fun i hi=>ziu _ _ (hbxl i hi)
  have F9:Hid (Fr (·=m) w (zml w8 bx (x.at B d) n)):=afm _ _ F8 (by have:=hbx.out;omega)
  have R9:Hid (Req (zml w8 bx (x.at B d) n) w.heap.size (sbV x B d n)):=by
   refine zbx (base:=w7.heap.size) (zao R8 fun g hg=>ziu _ _ ?_) (Nat.le_trans KW.out.size F7.out.size)
   have h1:=(R8.lt g hg).1;have h2:=zcl X7.out;omega
  have Z9:Hid ((zml w8 bx (x.at B d) n).heap[b]?=some (.cells (zac zaf) 26 (0,0))):=by
   have e1:¬b=m:=fun e=>by have:=(ltF m (Or.inr (Or.inr (Or.inl rfl)))).2;have:=hb.out;omega
   have e2:b≠bx:=by have:=hb.out;have:=hbx.out;omega
   exact(ziu _ _ e2).trans (k8.block ((F7.out.block b (zcl Y.out) e1).trans Y.out))
  have ok9:Hid (zcy (sbV x B d n)):=alj ok8 hnI.out;clear x0 x1 x2 x3 x4 x5 x6 x7 x8 xf cP R8 ok8 k8 X8 M8 F8 ltF hbxl M7 F7 X7;go_wp2_with fail;clear d0 d1 d2 d3 d4 d5 d6 d7 d8 g0;obtain⟨W9,hW9⟩:=Zn (zml w8 bx (x.at B d) n);rw[<- hW9] at B9 M9 F9 R9 Z9;unfold zml put9 zaa.at at hW9;rw[<- hW9];replace hW9:=Zq hW9;obtain⟨y,hy⟩:=Zn (sbV x B d n);have hyc:#[y.k,0]=#[x.k,0]:=by rw[hy];rfl
  rw[<- hy] at B9 R9 ok9;obtain⟨x0,x1,x2,x3,x4,x5,x6,x7,x8,xf⟩:=zae B9.out;have c0:W9.cell? ⟨q,0,none⟩=some (.slice A n c):=by rw[cell_of_row W9 q _ _ _ _ M9.out.hq];rfl
  have fz:W9.frozen? ⟨q,0,none⟩=false:=frozen_of_row W9 _ _ _ _ M9.out.hq;have ltq:q<W9.heap.size:=zcl M9.out.hq;have hAq:Hid (some q≠(Value.slice A n c).ownBlock):=fun e=>absurd (zck (zcn M9.out.rp.row e.symm) ⟨_,_,M9.out.hq⟩) (by decide)
  have hbl:Hid (b0<=W9.heap.size):=by show _<=_;have:=F9.out.size;have:=hb0'.out;omega
  replace hy:=Zq hy;replace hyc:=Zq hyc;clear xf;have hyn:Hid (nm y=zhi x n):=by show _=_;rw[hy.out];rfl
  have hyk:Hid (y.k=x.k):=by show _=_;rw[hy.out];rfl
  go_region_law (first
   | (refine zzh (W0:=W9) (by repeat (first | exact Keep.refl W9 | apply Keep.alloc | apply Keep.drew)) rfl (.tmp 45) (.tmp 47) rfl b0 (.slice A n c) n (zaj P n) (by simp[Act.eval]) (zal M9.out.rp.row (by repeat (first | exact Keep.refl _ | apply Keep.alloc | apply Keep.drew))) ⟨W9.heap.size,0,none⟩ y.cells (by simp[Act.eval]) rfl (zhq (heap_alloc_new _ _)) (cells_one _) (by have:=hn'.out;omega) (by have:=hbl.out;first | (rw[World.size_alloc];omega) | (simp;omega)) ?_
      intro g4 c4 w4 kp4 hr4 hg4 hl4 hz4;have d0:w4.cell? ⟨q,0,none⟩=some (.slice A n c):=World.grownBy.cell hg4 (kp4.cell c0) hAq.out;have d1:w4.frozen? ⟨q,0,none⟩=false:=by
       rw[hg4.frozen_far ⟨q,0,none⟩ (Nat.lt_of_lt_of_le ltq kp4.size) hAq.out,Below.frozen kp4 (p:=⟨q,0,none⟩) ltq];exact fz
      have E4:=Zq (ain H.out hb0'.out M9.out F9.out (by have:=hbx.out;omega) B9.out (by have:=hb.out;omega) Z9.out kp4 hyk.out R9.out ok9.out hr4 hg4 hl4 (lk.out y hyn.out))
      clear kp4;replace hr4:=Zq hr4;replace hg4:=Zq hg4;replace hl4:=Zq hl4
      replace hz4:=Zq hz4))
  all_goals
   clear x0 x1 x2 x3 x4 x5 x6 x7 x8 c0 fz d0 d1;obtain⟨S11,F11,B11,Z11,E11,N11⟩:=E4.out;obtain⟨W11,hW11⟩:=Zn (w4.setCell ⟨q,0,none⟩ (.slice (some ⟨g4,0,none⟩) (n+1) c4));rw[<- hW11] at S11 F11 B11 Z11 ⊢;obtain⟨x0,x1,x2,x3,x4,x5,x6,x7,x8,xf⟩:=zae B11;have hym:y.m<=1000:=by have:=hm'.out;rw[hy.out];exact this
   have pi:zah W11 y:=by
    have h1:=S11.rp.own n (by omega)
    have h2:=S11.rp.ok n (by omega)
    rw[zat] at h1 h2;exact h1.is h2
   have cP:=Zq (zdt y W11 pi hym);unfold zaa.at zaa.val at cP;replace hW11:=Zq hW11;replace S11:=Zq S11;replace F11:=Zq F11;replace B11:=Zq B11;replace Z11:=Zq Z11;replace E11:=Zq E11;replace N11:=Zq N11;clear pi hym E4;go_wp2_with fail;refine cP.out.mono ?_;rintro e w12 ⟨B2,d2,rfl,R12,ok12,_,k12⟩;have Z12:=k12.block Z11.out;obtain⟨d0,d1,d2',d3,d4,d5,d6,d7,d8,g0⟩:=zae Z12;unfold zaf at d0 d1 d2' d3 d4 d5 d6 d7 d8;have hbw:w.heap.size<=b:=by have:=hb.out;omega
   have B5:Hid ((put9 w12 b (y.at B2 d2)).heap[b]?=some (.cells (zac (y.at B2 d2)) 26 (0,0))):=zcp _ zaf Z12;have S5:Hid (ST (put9 w12 b (y.at B2 d2)) b0 s q t m (some ⟨g4,0,none⟩) c4 (n+1) (put P n y)):=(S11.out.keep k12).frame fun i hi=>zdd _ fun e=>(S11.out.keep k12).notPod ⟨_,_,Z12⟩ N11.out (by rw[<- e];exact hi)
   have F5:Hid (Fr (FE q t m A c n P) w (put9 w12 b (y.at B2 d2))):=zqm _ (F11.out.keep k12) hbw;have R5:Hid (Req (put9 w12 b (y.at B2 d2)) W11.heap.size (y.at B2 d2)):=zao R12 fun g hg=>zdd _ (by have:=(R12.lt g hg).1;have:=zcl Z11.out;omega)
   have L5:Hid (∀ i,FE q t m (some ⟨g4,0,none⟩) c4 (n+1) (put P n y) i->(FE q t m A c n P i\/w.heap.size<=i)/\i<W11.heap.size):=fun i hi=>⟨E11.out i hi,(S11.out.lt i hi).2⟩
   have sz5:Hid (w.heap.size<=W11.heap.size):=F11.out.size;have ok12:=Zq ok12;replace hbw:=Zq hbw;clear x0 x1 x2 x3 x4 x5 x6 x7 x8 xf R12 k12 Z12 cP;go_wp2;obtain⟨e0,e1,e2,e3,e4,e5,e6,e7,e8,_⟩:=zae B5.out;have E:=And.intro ok12.out (And.intro R5.out (And.intro sz5.out (And.intro S5.out (And.intro L5.out F5.out))));unfold put9 zaa.at at *;refine bodyPost_ret (v:=.tuple #[.agg #[.int .i64 y.k,.int .i64 y.p,.bool y.f,.int .i64 y.g,.slice B2 y.m d2,.int .i64 y.a,.int .i64 y.h,.int .i64 y.d,.int .i64 y.t],.nilIface]) (by simp[results,Tryz.results60,go_sem,e0,e1,e2,e3,e4,e5,e6,e7,e8]) rfl ?_
   have hy2:=hy.out;subst hy2;exact⟨B,d,B2,d2,W11.heap.size,some ⟨g4,0,none⟩,c4,rfl,E⟩
end
end Go.Proofs.YtcogiogjpbkeaaaGreatDoor.T13
