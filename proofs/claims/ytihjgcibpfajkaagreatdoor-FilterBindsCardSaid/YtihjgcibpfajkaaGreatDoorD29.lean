/-
  The store: Apply. Conditions: at most 1000 pods, each with at most 1000 amounts.
-/
import Derived.Test.YtihjgcibpfajkaaGreatDoorD28
namespace Go.Proofs.YtihjgcibpfajkaaGreatDoor.T13
open Go.RowKit Go.Sort Go.Lib V12
theorem adi(p e:Int):I64 (nx p e):=by
 unfold nx I64
 repeat' split
 all_goals omega
section
variable{w w':World}{b0:Nat}{s:Int}{q t m:Nat}{A:Option Addr}{c n:Nat}{P:Nat→zaa}
theorem ST.notPod(h:ST w b0 s q t m A c n P){b:Nat}(hT:Typ w b 26)(hg:¬(Value.slice A n c).ownBlock=some b):¬FE q t m A c n P b:=by
 rintro(rfl | rfl | rfl | h1 | ⟨i,hi,h1⟩)
 ·exact absurd (zbw hT h.tq) (by decide)
 ·exact absurd (zbw hT h.tt) (by decide)
 ·exact h.offT hT rfl
 ·exact hg h1
 ·exact absurd (zbw hT (h.tr hi h1)) (by decide)
theorem zma{D:Nat→Prop}{w0 w:World}{s:Nat}(x:zaa)(k:Fr D w0 w)(hs:w0.heap.size≤s):Fr D w0 (put9 w s x):=
 ((((((((k.set (by right;exact hs) _).set (by right;exact hs) _).set (by right;exact hs) _).set (by right;exact hs) _).set (by right;exact hs) _).set (by right;exact hs) _).set (by right;exact hs) _).set (by right;exact hs) _).set (by right;exact hs) _
theorem zgm{w1 Wf w2:World}{b:Nat}(H:ST w b0 s q t m A c n P)(H2:ST w1 b0 s q t m A c n P)(K1:Keep w w1){j:Nat}(hj:j<n){e nd dl:Int}(hx:nx (P j).h e≠0)(hb:b=w.heap.size)
  (Y1:w1.heap[b]?=some (.cells (zab zad) 26 (0,0))) (F:Fr (fun i=>(Value.slice A n c).ownBlock=some i) w1 Wf) {y:zaa} (hy:zao (P j) e nd dl=y) (R:zam Wf b0 (.slice A n c) n (put P j y)) (k2:Keep Wf w2) {B:Option Addr} {d:Nat} (Rq:Req w2 Wf.heap.size (y.at B d)) :
  w2.heap[b]?=some (.cells (zab zad) 26 (0,0))∧(put9 w2 b (y.at B d)).heap[b]?=some (.cells (zab (y.at B d)) 26 (0,0))∧Req (put9 w2 b (y.at B d)) w.heap.size (y.at B d)∧ST (put9 w2 b (y.at B d)) b0 s q t m A c n (put P j y)∧Fr (fun i=>(Value.slice A n c).ownBlock=some i) w (put9 w2 b (y.at B d)):=by
 have hgb:¬(Value.slice A n c).ownBlock=some b:=fun e=>by
  have:=(H.lt b (Or.inr (Or.inr (Or.inr (Or.inl e))))).2;omega
 have blt:b<w1.heap.size:=zbl Y1;have Y2:=k2.block ((F.block b blt hgb).trans Y1);have S:ST Wf b0 s q t m A c n (put P j y):=by
  rw[← hy] at R ⊢;exact H2.app hj hx F R
 have S2:=S.keep k2;have np:=S2.notPod ⟨_,_,Y2⟩ hgb;have sz:=F.size;have sz0:=K1.size;refine⟨Y2,zbs _ zad Y2,?_,S2.frame fun i hi=>zce _ fun e=>np (by rw[← e];exact hi),zma _ ((Fr.after K1 F).keep k2) (by omega)⟩
 refine own_base' (b:=Wf.heap.size) ?_ (by omega)
 refine zal Rq fun g hg=>zce _ ?_
 have:=(Rq.lt g hg).1;omega
set_option maxRecDepth 100000 in
set_option maxHeartbeats 8000000 in
theorem zju(h:ST w b0 s q t m A c n P){j:Nat}(hj:j<n)(e nd dl:Int)(hnd:I64 nd)(hdl:I64 dl)(hx:nx (P j).h e≠0)(hm:(P j).m≤1000):
  Calls Tryz.prog 43 #[.pointer (some ⟨q,0,none⟩),.int .i64 (P j).k,.int .i64 e,.int .i64 nd,.int .i64 dl] w fun e' w'=>∃ B d,e'=.returned (.tuple #[((zao (P j) e nd dl).at B d).val,.nilIface])∧Req w' w.heap.size ((zao (P j) e nd dl).at B d)∧zcx ((zao (P j) e nd dl).at B d)∧ST w' b0 s q t m A c n (put P j (zao (P j) e nd dl))∧Fr (fun i=>(Value.slice A n c).ownBlock=some i) w w':=by
 obtain⟨W,hW⟩:∃ W,W=w.alloc (.cells (zab zad) 26):=⟨_,rfl⟩;have KW:Hid (Keep w W):=by rw[hW];exact Keep.one _ _
 obtain⟨b,hb⟩:∃ b,b=w.heap.size:=⟨_,rfl⟩;have Y:Hid (W.heap[b]?=some (.cells (zab zad) 26 (0,0))):=by rw[hW,hb];exact heap_alloc_new _ _
 have hsz:Hid (W.heap.size=b+1):=by show _=_;rw[hW,World.size_alloc,hb]
 have h1:=h.keep KW.out;have hF:=Lib.hid (zgf h1 hj);have hN:=Lib.hid (fun W=>zfu (P j).h e W)
 have c0:=h1.c0;obtain⟨g,hA,X,_,hown⟩:=h1.at hj;subst hA;have hgb:¬g=b:=fun e=>by have:=(h.lt g (Or.inr (Or.inr (Or.inr (Or.inl hown))))).2;omega
 have q1:=zbe g 0 n c j hj;have H1:=Lib.hid h1;have H:=Lib.hid h;obtain⟨x,hxx⟩:∃ x,x=P j:=⟨_,rfl⟩;rw[← hxx] at hF hN X hx hm ⊢;have hy:Hid (∃ y,y=nx x.h e):=⟨_,rfl⟩;obtain⟨y,hy⟩:=hy.out;have hyr:I64 y:=by rw[hy];exact adi _ _
 have hd:decide (nx x.h e≠0)=true:=decide_eq_true hx;rw[hd,← hy] at hN;obtain⟨x0,x1,x2,x3,x4,x5,x6,x7,x8⟩:=X;rw[Nat.zero_add] at x0 x1 x2 x3 x4 x5 x6 x7 x8 q1;have hbw:Hid (w.heap.size≤b):=by show _≤_;omega
 have he:e=1∨e=2∨e=3∨e=4∨e=5:=by
  by_cases h1:e=1∨e=2∨e=3∨e=4∨e=5
  ·exact h1
  ·exfalso
   apply hx
   unfold nx
   repeat' split
   all_goals first | rfl | omega
 replace hxx:=Lib.hid hxx;replace hy:=Lib.hid hy;replace hyr:=Lib.hid hyr;have hx':=Lib.hid hx;have hm':=Lib.hid hm;replace hown:=Lib.hid hown;replace hnd:=Lib.hid hnd;replace hdl:=Lib.hid hdl;unfold zab zad at hW;clear h h1 hx hm hd
 go_enter Tryz.func43,Tryz.ntmps43
 go_wp2_with fail;rw[← hW,← hb];replace hW:=Lib.hid hW;replace hb:=Lib.hid hb;refine hF.out.mono ?_;rintro e' w1 ⟨rfl,rfl⟩;go_wp2_with fail;refine(hN.out _).mono ?_;rintro e' w1 ⟨rfl,k1⟩;replace x0:=k1.cell x0;replace x1:=k1.cell x1;replace x2:=k1.cell x2;replace x3:=k1.cell x3;replace x4:=k1.cell x4;replace x5:=k1.cell x5;replace x6:=k1.cell x6;replace x7:=k1.cell x7;replace x8:=k1.cell x8;have H2:=Lib.hid (H1.out.keep k1);have fz:∀ i,w1.frozen? ⟨g,i,none⟩=false:=fun i=>by
  obtain⟨cur,e⟩:=zdp H2.out.rp.row hown.out;exact frozen_of_row w1 g i _ _ e
 have Y1:=Lib.hid (k1.block Y.out);have K1:=Lib.hid (KW.out.trans k1);have sz1:=Lib.hid k1.size;clear k1 c0 q1 H1 Y;rcases he with rfl | rfl | rfl | rfl | rfl
 ·have hv:Hid (zao x 1 nd dl=chg x y nd (-1)):=by show _=_;rw[hy.out];unfold zao chg;simp
  have R3:Hid (zam (((w1.setCell ⟨g,j * 9+6,none⟩ (.int .i64 y)).setCell ⟨g,j * 9+8,none⟩ (.int .i64 (-1))).setCell ⟨g,j * 9+7,none⟩ (.int .i64 nd)) b0 (.slice (some ⟨g,0,none⟩) n c) n (put P j (chg x y nd (-1)))):=by
   have:=H2.out.rp.set3 hj hyr.out hnd.out;rw[← hxx.out] at this;exact this
  have F3:Hid (Fr (fun i=>(Value.slice (some ⟨g,0,none⟩) n c).ownBlock=some i) w1 (((w1.setCell ⟨g,j * 9+6,none⟩ (.int .i64 y)).setCell ⟨g,j * 9+8,none⟩ (.int .i64 (-1))).setCell ⟨g,j * 9+7,none⟩ (.int .i64 nd))):=zgt rfl
  go_wp2_with fail;obtain⟨Wf,hWf⟩:∃ Wf,Wf=(((w1.setCell ⟨g,j * 9+6,none⟩ (.int .i64 y)).setCell ⟨g,j * 9+8,none⟩ (.int .i64 (-1))).setCell ⟨g,j * 9+7,none⟩ (.int .i64 nd)):=⟨_,rfl⟩;rw[← hWf] at R3 F3 ⊢;replace hWf:=Lib.hid hWf;have pi:zaf Wf (chg x y nd (-1)):=by
   have h1:=R3.out.own j hj;have h2:=R3.out.ok j hj;rw[put_at] at h1 h2;exact h1.is h2
  have cC:=zcr (chg x y nd (-1)) Wf pi hm'.out;unfold zaa.at zaa.val chg at cC;refine cC.mono ?_;rintro e' w2 ⟨B,d,rfl,R,ok,_,k2⟩;obtain⟨Y2,E1,E2,E3,E4⟩:=zgm H.out H2.out K1.out hj (by rw[← hxx.out];exact hx'.out) hb.out Y1.out F3.out (e:=1) (nd:=nd) (dl:=dl) (y:=(chg x y nd (-1))) (by rw[← hxx.out,hv.out]) R3.out k2 R
  have E2:=Lib.hid E2;have E3:=Lib.hid E3;have E4:=Lib.hid E4;have ok:=Lib.hid ok;obtain⟨d0,d1,d2,d3,d4,d5,d6,d7,d8,g0⟩:=zah Y2;unfold zad at d0 d1 d2 d3 d4 d5 d6 d7 d8;have E1:=Lib.hid E1;clear R k2 Y2 pi cC x0 x1 x2 x3 x4 x5 x6 x7 x8 fz;go_wp2;obtain⟨e0,e1,e2,e3,e4,e5,e6,e7,e8,_⟩:=zah E1.out;rw[hv.out];have E:=And.intro E2.out (And.intro ok.out (And.intro E3.out E4.out));unfold put9 zaa.at chg at *;refine bodyPost_ret (v:=.tuple #[.agg #[.int .i64 x.k,.int .i64 x.p,.bool x.f,.int .i64 x.g,.slice B x.m d,.int .i64 x.a,.int .i64 y,.int .i64 nd,.int .i64 (-1)],.nilIface]) (by simp[results,Tryz.results43,go_sem,e0,e1,e2,e3,e4,e5,e6,e7,e8]) rfl ⟨B,d,rfl,E⟩
 ·have hv:Hid (zao x 2 nd dl=chg x y nd (-1)):=by show _=_;rw[hy.out];unfold zao chg;simp
  have R3:Hid (zam (((w1.setCell ⟨g,j * 9+6,none⟩ (.int .i64 y)).setCell ⟨g,j * 9+8,none⟩ (.int .i64 (-1))).setCell ⟨g,j * 9+7,none⟩ (.int .i64 nd)) b0 (.slice (some ⟨g,0,none⟩) n c) n (put P j (chg x y nd (-1)))):=by
   have:=H2.out.rp.set3 hj hyr.out hnd.out;rw[← hxx.out] at this;exact this
  have F3:Hid (Fr (fun i=>(Value.slice (some ⟨g,0,none⟩) n c).ownBlock=some i) w1 (((w1.setCell ⟨g,j * 9+6,none⟩ (.int .i64 y)).setCell ⟨g,j * 9+8,none⟩ (.int .i64 (-1))).setCell ⟨g,j * 9+7,none⟩ (.int .i64 nd))):=zgt rfl
  go_wp2_with fail;obtain⟨Wf,hWf⟩:∃ Wf,Wf=(((w1.setCell ⟨g,j * 9+6,none⟩ (.int .i64 y)).setCell ⟨g,j * 9+8,none⟩ (.int .i64 (-1))).setCell ⟨g,j * 9+7,none⟩ (.int .i64 nd)):=⟨_,rfl⟩;rw[← hWf] at R3 F3 ⊢;replace hWf:=Lib.hid hWf;have pi:zaf Wf (chg x y nd (-1)):=by
   have h1:=R3.out.own j hj;have h2:=R3.out.ok j hj;rw[put_at] at h1 h2;exact h1.is h2
  have cC:=zcr (chg x y nd (-1)) Wf pi hm'.out;unfold zaa.at zaa.val chg at cC;refine cC.mono ?_;rintro e' w2 ⟨B,d,rfl,R,ok,_,k2⟩;obtain⟨Y2,E1,E2,E3,E4⟩:=zgm H.out H2.out K1.out hj (by rw[← hxx.out];exact hx'.out) hb.out Y1.out F3.out (e:=2) (nd:=nd) (dl:=dl) (y:=(chg x y nd (-1))) (by rw[← hxx.out,hv.out]) R3.out k2 R
  have E2:=Lib.hid E2;have E3:=Lib.hid E3;have E4:=Lib.hid E4;have ok:=Lib.hid ok;obtain⟨d0,d1,d2,d3,d4,d5,d6,d7,d8,g0⟩:=zah Y2;unfold zad at d0 d1 d2 d3 d4 d5 d6 d7 d8;have E1:=Lib.hid E1;clear R k2 Y2 pi cC x0 x1 x2 x3 x4 x5 x6 x7 x8 fz;go_wp2;obtain⟨e0,e1,e2,e3,e4,e5,e6,e7,e8,_⟩:=zah E1.out;rw[hv.out];have E:=And.intro E2.out (And.intro ok.out (And.intro E3.out E4.out));unfold put9 zaa.at chg at *;refine bodyPost_ret (v:=.tuple #[.agg #[.int .i64 x.k,.int .i64 x.p,.bool x.f,.int .i64 x.g,.slice B x.m d,.int .i64 x.a,.int .i64 y,.int .i64 nd,.int .i64 (-1)],.nilIface]) (by simp[results,Tryz.results43,go_sem,e0,e1,e2,e3,e4,e5,e6,e7,e8]) rfl ⟨B,d,rfl,E⟩
 ·have hv:Hid (zao x 3 nd dl=chg x y (-1) (-1)):=by show _=_;rw[hy.out];unfold zao chg;simp
  have m1:I64 (-1):=by unfold I64;omega
  have R3:Hid (zam (((w1.setCell ⟨g,j * 9+6,none⟩ (.int .i64 y)).setCell ⟨g,j * 9+8,none⟩ (.int .i64 (-1))).setCell ⟨g,j * 9+7,none⟩ (.int .i64 (-1))) b0 (.slice (some ⟨g,0,none⟩) n c) n (put P j (chg x y (-1) (-1)))):=by
   have:=H2.out.rp.set3 hj hyr.out m1;rw[← hxx.out] at this;exact this
  have F3:Hid (Fr (fun i=>(Value.slice (some ⟨g,0,none⟩) n c).ownBlock=some i) w1 (((w1.setCell ⟨g,j * 9+6,none⟩ (.int .i64 y)).setCell ⟨g,j * 9+8,none⟩ (.int .i64 (-1))).setCell ⟨g,j * 9+7,none⟩ (.int .i64 (-1)))):=zgt rfl
  replace m1:=Lib.hid m1;go_wp2_with fail;obtain⟨Wf,hWf⟩:∃ Wf,Wf=(((w1.setCell ⟨g,j * 9+6,none⟩ (.int .i64 y)).setCell ⟨g,j * 9+8,none⟩ (.int .i64 (-1))).setCell ⟨g,j * 9+7,none⟩ (.int .i64 (-1))):=⟨_,rfl⟩;rw[← hWf] at R3 F3 ⊢;replace hWf:=Lib.hid hWf;have pi:zaf Wf (chg x y (-1) (-1)):=by
   have h1:=R3.out.own j hj;have h2:=R3.out.ok j hj;rw[put_at] at h1 h2;exact h1.is h2
  have cC:=zcr (chg x y (-1) (-1)) Wf pi hm'.out;unfold zaa.at zaa.val chg at cC;refine cC.mono ?_;rintro e' w2 ⟨B,d,rfl,R,ok,_,k2⟩;obtain⟨Y2,E1,E2,E3,E4⟩:=zgm H.out H2.out K1.out hj (by rw[← hxx.out];exact hx'.out) hb.out Y1.out F3.out (e:=3) (nd:=nd) (dl:=dl) (y:=(chg x y (-1) (-1))) (by rw[← hxx.out,hv.out]) R3.out k2 R
  have E2:=Lib.hid E2;have E3:=Lib.hid E3;have E4:=Lib.hid E4;have ok:=Lib.hid ok;obtain⟨d0,d1,d2,d3,d4,d5,d6,d7,d8,g0⟩:=zah Y2;unfold zad at d0 d1 d2 d3 d4 d5 d6 d7 d8;have E1:=Lib.hid E1;clear R k2 Y2 pi cC x0 x1 x2 x3 x4 x5 x6 x7 x8 fz;go_wp2;obtain⟨e0,e1,e2,e3,e4,e5,e6,e7,e8,_⟩:=zah E1.out;rw[hv.out];have E:=And.intro E2.out (And.intro ok.out (And.intro E3.out E4.out));unfold put9 zaa.at chg at *;refine bodyPost_ret (v:=.tuple #[.agg #[.int .i64 x.k,.int .i64 x.p,.bool x.f,.int .i64 x.g,.slice B x.m d,.int .i64 x.a,.int .i64 y,.int .i64 (-1),.int .i64 (-1)],.nilIface]) (by simp[results,Tryz.results43,go_sem,e0,e1,e2,e3,e4,e5,e6,e7,e8]) rfl ⟨B,d,rfl,E⟩
 ·have hv:Hid (zao x 4 nd dl=chg x y x.d dl):=by show _=_;rw[hy.out];unfold zao chg;simp
  have R3:Hid (zam (((w1.setCell ⟨g,j * 9+6,none⟩ (.int .i64 y)).setCell ⟨g,j * 9+8,none⟩ (.int .i64 (-1))).setCell ⟨g,j * 9+8,none⟩ (.int .i64 dl)) b0 (.slice (some ⟨g,0,none⟩) n c) n (put P j (chg x y x.d dl))):=by
   have:=H2.out.rp.setT hj hyr.out hdl.out;rw[← hxx.out] at this;exact this
  have F3:Hid (Fr (fun i=>(Value.slice (some ⟨g,0,none⟩) n c).ownBlock=some i) w1 (((w1.setCell ⟨g,j * 9+6,none⟩ (.int .i64 y)).setCell ⟨g,j * 9+8,none⟩ (.int .i64 (-1))).setCell ⟨g,j * 9+8,none⟩ (.int .i64 dl))):=zgt rfl
  have z8:=(zbz R3.out.row hj).e8;rw[put_at,Nat.zero_add] at z8;unfold chg at z8
  dsimp only at z8
  go_wp2_with fail;obtain⟨Wf,hWf⟩:∃ Wf,Wf=(((w1.setCell ⟨g,j * 9+6,none⟩ (.int .i64 y)).setCell ⟨g,j * 9+8,none⟩ (.int .i64 (-1))).setCell ⟨g,j * 9+8,none⟩ (.int .i64 dl)):=⟨_,rfl⟩;rw[← hWf] at R3 F3 ⊢;replace hWf:=Lib.hid hWf;have pi:zaf Wf (chg x y x.d dl):=by
   have h1:=R3.out.own j hj;have h2:=R3.out.ok j hj;rw[put_at] at h1 h2;exact h1.is h2
  have cC:=zcr (chg x y x.d dl) Wf pi hm'.out;unfold zaa.at zaa.val chg at cC;refine cC.mono ?_;rintro e' w2 ⟨B,d,rfl,R,ok,_,k2⟩;obtain⟨Y2,E1,E2,E3,E4⟩:=zgm H.out H2.out K1.out hj (by rw[← hxx.out];exact hx'.out) hb.out Y1.out F3.out (e:=4) (nd:=nd) (dl:=dl) (y:=(chg x y x.d dl)) (by rw[← hxx.out,hv.out]) R3.out k2 R
  have E2:=Lib.hid E2;have E3:=Lib.hid E3;have E4:=Lib.hid E4;have ok:=Lib.hid ok;obtain⟨d0,d1,d2,d3,d4,d5,d6,d7,d8,g0⟩:=zah Y2;unfold zad at d0 d1 d2 d3 d4 d5 d6 d7 d8;have E1:=Lib.hid E1;clear R k2 Y2 pi cC x0 x1 x2 x3 x4 x5 x6 x7 x8 fz;go_wp2;obtain⟨e0,e1,e2,e3,e4,e5,e6,e7,e8,_⟩:=zah E1.out;rw[hv.out];have E:=And.intro E2.out (And.intro ok.out (And.intro E3.out E4.out));unfold put9 zaa.at chg at *;refine bodyPost_ret (v:=.tuple #[.agg #[.int .i64 x.k,.int .i64 x.p,.bool x.f,.int .i64 x.g,.slice B x.m d,.int .i64 x.a,.int .i64 y,.int .i64 x.d,.int .i64 dl],.nilIface]) (by simp[results,Tryz.results43,go_sem,e0,e1,e2,e3,e4,e5,e6,e7,e8]) rfl ⟨B,d,rfl,E⟩
 ·have hv:Hid (zao x 5 nd dl=chg x y (-1) (-1)):=by show _=_;rw[hy.out];unfold zao chg;simp
  have m1:I64 (-1):=by unfold I64;omega
  have R3:Hid (zam (((w1.setCell ⟨g,j * 9+6,none⟩ (.int .i64 y)).setCell ⟨g,j * 9+8,none⟩ (.int .i64 (-1))).setCell ⟨g,j * 9+7,none⟩ (.int .i64 (-1))) b0 (.slice (some ⟨g,0,none⟩) n c) n (put P j (chg x y (-1) (-1)))):=by
   have:=H2.out.rp.set3 hj hyr.out m1;rw[← hxx.out] at this;exact this
  have F3:Hid (Fr (fun i=>(Value.slice (some ⟨g,0,none⟩) n c).ownBlock=some i) w1 (((w1.setCell ⟨g,j * 9+6,none⟩ (.int .i64 y)).setCell ⟨g,j * 9+8,none⟩ (.int .i64 (-1))).setCell ⟨g,j * 9+7,none⟩ (.int .i64 (-1)))):=zgt rfl
  replace m1:=Lib.hid m1;go_wp2_with fail;obtain⟨Wf,hWf⟩:∃ Wf,Wf=(((w1.setCell ⟨g,j * 9+6,none⟩ (.int .i64 y)).setCell ⟨g,j * 9+8,none⟩ (.int .i64 (-1))).setCell ⟨g,j * 9+7,none⟩ (.int .i64 (-1))):=⟨_,rfl⟩;rw[← hWf] at R3 F3 ⊢;replace hWf:=Lib.hid hWf;have pi:zaf Wf (chg x y (-1) (-1)):=by
   have h1:=R3.out.own j hj;have h2:=R3.out.ok j hj;rw[put_at] at h1 h2;exact h1.is h2
  have cC:=zcr (chg x y (-1) (-1)) Wf pi hm'.out;unfold zaa.at zaa.val chg at cC;refine cC.mono ?_;rintro e' w2 ⟨B,d,rfl,R,ok,_,k2⟩;obtain⟨Y2,E1,E2,E3,E4⟩:=zgm H.out H2.out K1.out hj (by rw[← hxx.out];exact hx'.out) hb.out Y1.out F3.out (e:=5) (nd:=nd) (dl:=dl) (y:=(chg x y (-1) (-1))) (by rw[← hxx.out,hv.out]) R3.out k2 R
  have E2:=Lib.hid E2;have E3:=Lib.hid E3;have E4:=Lib.hid E4;have ok:=Lib.hid ok;obtain⟨d0,d1,d2,d3,d4,d5,d6,d7,d8,g0⟩:=zah Y2;unfold zad at d0 d1 d2 d3 d4 d5 d6 d7 d8;have E1:=Lib.hid E1;clear R k2 Y2 pi cC x0 x1 x2 x3 x4 x5 x6 x7 x8 fz;go_wp2;obtain⟨e0,e1,e2,e3,e4,e5,e6,e7,e8,_⟩:=zah E1.out;rw[hv.out];have E:=And.intro E2.out (And.intro ok.out (And.intro E3.out E4.out));unfold put9 zaa.at chg at *;refine bodyPost_ret (v:=.tuple #[.agg #[.int .i64 x.k,.int .i64 x.p,.bool x.f,.int .i64 x.g,.slice B x.m d,.int .i64 x.a,.int .i64 y,.int .i64 (-1),.int .i64 (-1)],.nilIface]) (by simp[results,Tryz.results43,go_sem,e0,e1,e2,e3,e4,e5,e6,e7,e8]) rfl ⟨B,d,rfl,E⟩
end
end Go.Proofs.YtihjgcibpfajkaaGreatDoor.T13
