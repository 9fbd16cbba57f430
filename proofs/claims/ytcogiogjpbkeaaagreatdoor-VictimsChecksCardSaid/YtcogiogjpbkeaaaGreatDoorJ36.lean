/-
  Package rank's order over T13's pods (as Ord6 By6 Cmp6 Fns6 Clone6). No condition.
  What the walks of the stable sort ask of the program. No condition.
-/
import Derived.Test.YtcogiogjpbkeaaaGreatDoorJ0
import Derived.Test.YtcogiogjpbkeaaaGreatDoorJ7
import Derived.Laws.EntriesVeiled
import Derived.Sort.WalkB2
import Derived.Sort.WalkB12
namespace Go.Proofs.YtcogiogjpbkeaaaGreatDoor.K18
open Go.RowKit Go.Sort Go.Lib Go.Shelf V12 T13
def zkh(a b:Int):Int:=if a<b then -1 else if b<a then 1 else 0
set_option maxHeartbeats 1000000 in
theorem agp(x:zaa)(w:World):Calls Tryz.prog 115 #[x.val] w fun e w'=>e=.returned (.int .i64 x.p)/\Gr w w':=by
 unfold zaa.val
 go_enter Tryz.func115,Tryz.ntmps115
 go_wp2;go_ret
 exact⟨rfl,Gr.one _ _⟩
set_option maxHeartbeats 1000000 in
theorem agq(x:zaa)(w:World):Calls Tryz.prog 116 #[x.val] w fun e w'=>e=.returned (.int .i64 x.a)/\Gr w w':=by
 unfold zaa.val
 go_enter Tryz.func116,Tryz.ntmps116
 go_wp2;go_ret
 exact⟨rfl,Gr.one _ _⟩
set_option maxHeartbeats 1000000 in
theorem agr(x:zaa)(w:World):Calls Tryz.prog 117 #[x.val] w fun e w'=>e=.returned (.int .i64 x.k)/\Gr w w':=by
 unfold zaa.val
 go_enter Tryz.func117,Tryz.ntmps117
 go_wp2;go_ret
 exact⟨rfl,Gr.one _ _⟩
set_option maxHeartbeats 1000000 in
theorem zkq(x:Int)(w:World):Calls Tryz.prog 152 #[.int .i64 x] w fun e w'=>e=.returned (.bool false)/\w=w':=by
 go_enter Tryz.func152,Tryz.ntmps152
 go_wp2;go_ret
 exact⟨rfl,rfl⟩
set_option maxHeartbeats 1000000 in
theorem zua(x y:Int)(w:World):Calls Tryz.prog 142 #[.int .i64 x,.int .i64 y] w fun e w'=>e=.returned (.int .i64 (zkh x y))/\w=w':=by
 by_cases h1:x<y
 ·rw[show zkh x y = -1 from if_pos h1]
  go_enter Tryz.func142,Tryz.ntmps142
  go_wp2_with fail;refine(zkq x w).mono ?_;rintro e w1 ⟨rfl,rfl⟩;go_wp2_with fail;refine(zkq y w).mono ?_;rintro e w1 ⟨rfl,rfl⟩;go_wp2;go_ret
  exact⟨rfl,rfl⟩
 ·by_cases h2:y<x
  ·rw[show zkh x y=1 from(if_neg h1).trans (if_pos h2)]
   go_enter Tryz.func142,Tryz.ntmps142
   go_wp2_with fail;refine(zkq x w).mono ?_;rintro e w1 ⟨rfl,rfl⟩;go_wp2_with fail;refine(zkq y w).mono ?_;rintro e w1 ⟨rfl,rfl⟩;go_wp2;go_ret
   exact⟨rfl,rfl⟩
  ·rw[show zkh x y=0 from(if_neg h1).trans (if_neg h2)]
   go_enter Tryz.func142,Tryz.ntmps142
   go_wp2_with fail;refine(zkq x w).mono ?_;rintro e w1 ⟨rfl,rfl⟩;go_wp2_with fail;refine(zkq y w).mono ?_;rintro e w1 ⟨rfl,rfl⟩;go_wp2;go_ret
   exact⟨rfl,rfl⟩
def or3(x y z:Int):Int:=if x≠0 then x else if y≠0 then y else z
set_option maxHeartbeats 2000000 in
theorem amr(b c:Nat)(x y z:Int)(w:World)(h0:w.cell? ⟨b,0,none⟩=some (.int .i64 x))(h1:w.cell? ⟨b,1,none⟩=some (.int .i64 y))(h2:w.cell? ⟨b,2,none⟩=some (.int .i64 z)):
  Calls Tryz.prog 119 #[.slice (some ⟨b,0,none⟩) 3 c] w fun e w'=>e=.returned (.int .i64 (or3 x y z))/\w=w':=by
 go_enter Tryz.func119,Tryz.ntmps119
 go_wp2
 go_loopg [8] 3 (fun gx i wr=>∃ j:Nat,j<=3/\gx=3 - j/\i=.int .i64 j/\Hid (w=wr)/\Hid ((0<j->x=0)/\(1<j->y=0)/\(2<j->z=0)))
 case atStart=>exact⟨0,by omega,rfl,rfl,rfl,⟨fun h=>by omega,fun h=>by omega,fun h=>by omega⟩⟩
 case round =>
  obtain⟨j,hj,rfl,rfl,hw,HI⟩:=hrel;have hw:=hw.out;subst hw;obtain rfl | rfl | rfl | rfl:j=0\/j=1\/j=2\/j=3:=by omega
  ·by_cases hx:x=0
   ·have H1:=Zq hx
    have hb:(x != 0)=false:=by simp[hx]
    clear hx;go_wp2;go_roundg 2
    case measure=>omega
    case rel=>exact⟨1,by omega,rfl,rfl,rfl,⟨fun _=>H1.out,fun h=>by omega,fun h=>by omega⟩⟩
   ·have hb:(x != 0)=true:=by simpa using hx
    have e:Hid (or3 x y z=x):=if_pos hx;go_wp2;go_ret
    exact⟨by rw[e.out];rfl,rfl⟩
  ·by_cases hx:y=0
   ·have H1:=Zq hx
    have hb:(y != 0)=false:=by simp[hx]
    clear hx;go_wp2;go_roundg 1
    case measure=>omega
    case rel=>exact⟨2,by omega,rfl,rfl,rfl,⟨fun _=>HI.out.1 (by omega),fun _=>H1.out,fun h=>by omega⟩⟩
   ·have hb:(y != 0)=true:=by simpa using hx
    have e:Hid (or3 x y z=y):=by show _=_;unfold or3;rw[if_neg (by simp[HI.out.1 (by omega)]),if_pos hx]
    go_wp2;go_ret
    exact⟨by rw[e.out];rfl,rfl⟩
  ·by_cases hx:z=0
   ·have H1:=Zq hx
    have hb:(z != 0)=false:=by simp[hx]
    clear hx;go_wp2;go_roundg 0
    case measure=>omega
    case rel=>exact⟨3,by omega,rfl,rfl,rfl,⟨fun _=>HI.out.1 (by omega),fun _=>HI.out.2.1 (by omega),fun _=>H1.out⟩⟩
   ·have hb:(z != 0)=true:=by simpa using hx
    have e:Hid (or3 x y z=z):=by show _=_;unfold or3;rw[if_neg (by simp[HI.out.1 (by omega)]),if_neg (by simp[HI.out.2.1 (by omega)])]
    go_wp2;go_ret
    exact⟨by rw[e.out];rfl,rfl⟩
  ·have e:Hid (or3 x y z=0):=by show _=_;unfold or3;rw[if_neg (by simp[HI.out.1 (by omega)]),if_neg (by simp[HI.out.2.1 (by omega)]),HI.out.2.2 (by omega)]
   go_wp2;go_ret
   exact⟨by rw[e.out];rfl,rfl⟩
set_option maxRecDepth 100000 in
set_option maxHeartbeats 4000000 in
theorem aab(f:FuncId)(pr:zaa->Int)(ef:∀ args w,(callFunc f args).run Tryz.prog w=.ok (.enter f args) w)(hf:∀ (p:zaa) (w:World),Calls Tryz.prog f #[p.val] w fun e w'=>e=.returned (.int .i64 (pr p))/\Gr w w')(x y:zaa)(w:World):
  Calls Tryz.prog 120 #[.func (.func f) #[] #[],x.val,y.val] w fun e w'=>e=.returned (.int .i64 (zkh (pr x) (pr y)))/\Gr w w':=by
 have mixed:Tryz.prog.follows .mixedOrders=true:=by kernel_rfl
 have hx:=hf x;have hy:=hf y;have hc:=fun W=>zua (pr x) (pr y) W
 generalize zkh (pr x) (pr y)=r at hc ⊢;generalize pr x=u at hx hc;generalize pr y=v at hy hc;clear hf;unfold zaa.val Gr at hx hy;unfold zaa.val;replace hc:∀ W,Calls Tryz.prog 142 #[.int .i64 u,.int .i64 v] W fun e w'=>e=.returned (.int .i64 r)/\∃ q os,w'=grow (W.drewN q) os:=fun W=>(hc W).mono fun e w' h=>⟨h.1,0,#[],by rw[<- h.2,grow_empty];rfl⟩
 go_enter Tryz.func120,Tryz.ntmps120
 go_wp2_with fail;have g0:=((Gr.refl w).alloc (.cells #[.int .i64 x.k,.int .i64 x.p,.bool x.f,.int .i64 x.g,.slice x.A x.m x.c,.int .i64 x.a,.int .i64 x.h,.int .i64 x.d,.int .i64 x.t] 26)).alloc (.cells #[.int .i64 y.k,.int .i64 y.p,.bool y.f,.int .i64 y.g,.slice y.A y.m y.c,.int .i64 y.a,.int .i64 y.h,.int .i64 y.d,.int .i64 y.t] 26);have X:=(zcr.new w x 26 _ rfl).keep (Keep.one _ (.cells #[.int .i64 y.k,.int .i64 y.p,.bool y.f,.int .i64 y.g,.slice y.A y.m y.c,.int .i64 y.a,.int .i64 y.h,.int .i64 y.d,.int .i64 y.t] 26));have Y:=zcr.new (w.alloc (.cells #[.int .i64 x.k,.int .i64 x.p,.bool x.f,.int .i64 x.g,.slice x.A x.m x.c,.int .i64 x.a,.int .i64 x.h,.int .i64 x.d,.int .i64 x.t] 26)) y 26 _ rfl;rw[show(w.alloc (.cells #[.int .i64 x.k,.int .i64 x.p,.bool x.f,.int .i64 x.g,.slice x.A x.m x.c,.int .i64 x.a,.int .i64 x.h,.int .i64 x.d,.int .i64 x.t] 26)).heap.size=w.heap.size+1 by simp] at Y
 generalize (w.alloc (.cells #[.int .i64 x.k,.int .i64 x.p,.bool x.f,.int .i64 x.g,.slice x.A x.m x.c,.int .i64 x.a,.int .i64 x.h,.int .i64 x.d,.int .i64 x.t] 26)).alloc (.cells #[.int .i64 y.k,.int .i64 y.p,.bool y.f,.int .i64 y.g,.slice y.A y.m y.c,.int .i64 y.a,.int .i64 y.h,.int .i64 y.d,.int .i64 y.t] 26)=w0 at g0 X Y ⊢;replace g0:=Zq g0;have x0:=grows X.e0;have x1:=grows X.e1;have x2:=grows X.e2;have x3:=grows X.e3;have x4:=grows X.e4;have x5:=grows X.e5;have x6:=grows X.e6;have x7:=grows X.e7;have x8:=grows X.e8;have y0:=grows Y.e0;have y1:=grows Y.e1;have y2:=grows Y.e2;have y3:=grows Y.e3;have y4:=grows Y.e4;have y5:=grows Y.e5;have y6:=grows Y.e6;have y7:=grows Y.e7;have y8:=grows Y.e8;clear X Y;simp only[Nat.zero_add] at x1 x2 x3 x4 x5 x6 x7 x8 y1 y2 y3 y4 y5 y6 y7 y8
 go_quiet_grown (first
  | (go_at_fn f;refine Calls.grown_of (hx _))
  | (go_at_fn f;refine Calls.grown_of (hy _))
  | (go_at_call 142;refine Calls.grown_of (hc _)))
 go_wp2;go_ret
 exact⟨rfl,g0.out.trans ⟨nq,osq,rfl⟩⟩
def cmpP(x y:zaa):Int:=or3 (zkh y.p x.p) (zkh x.a y.a) (zkh x.k y.k)
structure Keys(w:World)(b1 b2 b3:Nat):Prop where
 c1:w.cell? ⟨b1,0,none⟩=some (.func (.func 115) #[] #[])
 c2:w.cell? ⟨b2,0,none⟩=some (.func (.func 116) #[] #[])
 c3:w.cell? ⟨b3,0,none⟩=some (.func (.func 117) #[] #[])
theorem Keys.keep{w w':World}{b1 b2 b3:Nat}(h:Keys w b1 b2 b3)(k:Keep w w'):Keys w' b1 b2 b3:=⟨k.cell h.c1,k.cell h.c2,k.cell h.c3⟩
def zmv(b1 b2 b3:Nat):Array Value:=#[.pointer (some ⟨b1,0,none⟩),.pointer (some ⟨b2,0,none⟩),.pointer (some ⟨b3,0,none⟩)]
def zxu(b1 b2 b3:Nat):Value:=.func (.func 118) #[] (zmv b1 b2 b3)
set_option maxRecDepth 100000 in
set_option maxHeartbeats 16000000 in
theorem ztz(b1 b2 b3:Nat)(x y:zaa)(w:World)(hK:Keys w b1 b2 b3):
  Calls Tryz.prog 118 #[x.val,y.val,.pointer (some ⟨b1,0,none⟩),.pointer (some ⟨b2,0,none⟩),.pointer (some ⟨b3,0,none⟩)] w fun e w'=>e=.returned (.int .i64 (cmpP x y))/\Gr w w':=by
 have hb1:=fun W=>aab 115 zaa.p (enters_of Tryz.func115 (by kernel_rfl) rfl) agp y x W
 have hb2:=fun W=>aab 116 zaa.a (enters_of Tryz.func116 (by kernel_rfl) rfl) agq x y W
 have hb3:=fun W=>aab 117 zaa.k (enters_of Tryz.func117 (by kernel_rfl) rfl) agr x y W
 unfold cmpP;generalize zkh y.p x.p=u at hb1 ⊢;generalize zkh x.a y.a=v at hb2 ⊢;generalize zkh x.k y.k=z at hb3 ⊢;have ho:=fun b c W=>amr b c u v z W
 generalize or3 u v z=r at ho ⊢;unfold zaa.val at hb1 hb2 hb3;unfold zaa.val;replace hb1:=Zq hb1;replace hb2:=Zq hb2;replace hb3:=Zq hb3;replace ho:=Zq ho
 go_enter Tryz.func118,Tryz.ntmps118
 go_wp2_with fail;have g0:=((Gr.refl w).alloc (.cells #[.int .i64 x.k,.int .i64 x.p,.bool x.f,.int .i64 x.g,.slice x.A x.m x.c,.int .i64 x.a,.int .i64 x.h,.int .i64 x.d,.int .i64 x.t] 26)).alloc (.cells #[.int .i64 y.k,.int .i64 y.p,.bool y.f,.int .i64 y.g,.slice y.A y.m y.c,.int .i64 y.a,.int .i64 y.h,.int .i64 y.d,.int .i64 y.t] 26);have X:=(zcr.new w x 26 _ rfl).keep (Keep.one _ (.cells #[.int .i64 y.k,.int .i64 y.p,.bool y.f,.int .i64 y.g,.slice y.A y.m y.c,.int .i64 y.a,.int .i64 y.h,.int .i64 y.d,.int .i64 y.t] 26));have Y:=zcr.new (w.alloc (.cells #[.int .i64 x.k,.int .i64 x.p,.bool x.f,.int .i64 x.g,.slice x.A x.m x.c,.int .i64 x.a,.int .i64 x.h,.int .i64 x.d,.int .i64 x.t] 26)) y 26 _ rfl;have K0:=hK.keep g0.keep;rw[show(w.alloc (.cells #[.int .i64 x.k,.int .i64 x.p,.bool x.f,.int .i64 x.g,.slice x.A x.m x.c,.int .i64 x.a,.int .i64 x.h,.int .i64 x.d,.int .i64 x.t] 26)).heap.size=w.heap.size+1 by simp] at Y
 generalize (w.alloc (.cells #[.int .i64 x.k,.int .i64 x.p,.bool x.f,.int .i64 x.g,.slice x.A x.m x.c,.int .i64 x.a,.int .i64 x.h,.int .i64 x.d,.int .i64 x.t] 26)).alloc (.cells #[.int .i64 y.k,.int .i64 y.p,.bool y.f,.int .i64 y.g,.slice y.A y.m y.c,.int .i64 y.a,.int .i64 y.h,.int .i64 y.d,.int .i64 y.t] 26)=w0 at g0 X Y K0 ⊢;replace g0:=Zq g0;clear hK;have x0:=X.e0;have x1:=X.e1;have x2:=X.e2;have x3:=X.e3;have x4:=X.e4;have x5:=X.e5;have x6:=X.e6;have x7:=X.e7;have x8:=X.e8;have y0:=Y.e0;have y1:=Y.e1;have y2:=Y.e2;have y3:=Y.e3;have y4:=Y.e4;have y5:=Y.e5;have y6:=Y.e6;have y7:=Y.e7;have y8:=Y.e8;have k1:=K0.c1;have k2:=K0.c2;have k3:=K0.c3;clear X Y K0;simp only[Nat.zero_add] at x1 x2 x3 x4 x5 x6 x7 x8 y1 y2 y3 y4 y5 y6 y7 y8;generalize w.heap.size=q at *
 go_region_held3 (fun w'=>w'.cell? ⟨b1,0,none⟩=some (.func (.func 115) #[] #[])/\w'.cell? ⟨b2,0,none⟩=some (.func (.func 116) #[] #[])/\w'.cell? ⟨b3,0,none⟩=some (.func (.func 117) #[] #[])
   /\ w'.cell? ⟨q,0,none⟩=some (.int .i64 x.k)/\w'.cell? ⟨q,1,none⟩=some (.int .i64 x.p)/\w'.cell? ⟨q,2,none⟩=some (.bool x.f)/\w'.cell? ⟨q,3,none⟩=some (.int .i64 x.g)/\w'.cell? ⟨q,4,none⟩=some (.slice x.A x.m x.c)/\w'.cell? ⟨q,5,none⟩=some (.int .i64 x.a)/\w'.cell? ⟨q,6,none⟩=some (.int .i64 x.h)/\w'.cell? ⟨q,7,none⟩=some (.int .i64 x.d)/\w'.cell? ⟨q,8,none⟩=some (.int .i64 x.t)
   /\ w'.cell? ⟨q+1,0,none⟩=some (.int .i64 y.k)/\w'.cell? ⟨q+1,1,none⟩=some (.int .i64 y.p)/\w'.cell? ⟨q+1,2,none⟩=some (.bool y.f)/\w'.cell? ⟨q+1,3,none⟩=some (.int .i64 y.g)/\w'.cell? ⟨q+1,4,none⟩=some (.slice y.A y.m y.c)/\w'.cell? ⟨q+1,5,none⟩=some (.int .i64 y.a)/\w'.cell? ⟨q+1,6,none⟩=some (.int .i64 y.h)/\w'.cell? ⟨q+1,7,none⟩=some (.int .i64 y.d)/\w'.cell? ⟨q+1,8,none⟩=some (.int .i64 y.t))
   ((refine(fun (K:Gr w0 _)=>⟨K.cell k1,K.cell k2,K.cell k3,K.cell x0,K.cell x1,K.cell x2,K.cell x3,K.cell x4,K.cell x5,K.cell x6,K.cell x7,K.cell x8,K.cell y0,K.cell y1,K.cell y2,K.cell y3,K.cell y4,K.cell y5,K.cell y6,K.cell y7,K.cell y8⟩) ?_;repeat (with_reducible first | exact Gr.refl w0 | apply Gr.alloc | apply Gr.drew | apply Gr.drewN | (refine Gr.trans ?_ h1.out) | (refine Gr.trans ?_ h2.out) | (refine Gr.trans ?_ h3.out))))
   (first
    | (go_at_call_of 120 (Value.func (.func 115) #[] #[]);refine(hb1.out _).mono ?_;rintro e w1 ⟨rfl,h1⟩;replace h1:=Zq h1)
    | (go_at_call_of 120 (Value.func (.func 116) #[] #[]);refine(hb2.out _).mono ?_;rintro e w2 ⟨rfl,h2⟩;replace h2:=Zq h2)
    | (go_at_call_of 120 (Value.func (.func 117) #[] #[]);refine(hb3.out _).mono ?_;rintro e w3 ⟨rfl,h3⟩;replace h3:=Zq h3)
    | (go_at_call 119;refine(ho.out _ _ _ (by simp) (by simp) (by simp)).mono ?_;rintro e w4 ⟨rfl,rfl⟩))
 all_goals
  go_wp2;go_ret
  refine⟨rfl,g0.out.trans ?_⟩
  repeat (with_reducible first | exact Gr.refl w0 | apply Gr.alloc | apply Gr.drew | apply Gr.drewN | (refine Gr.trans ?_ h1.out) | (refine Gr.trans ?_ h2.out) | (refine Gr.trans ?_ h3.out))
set_option maxHeartbeats 2000000 in
theorem abo(w:World):Calls Tryz.prog 76 #[] w fun e w'=>∃ b1 b2 b3,e=.returned (zxu b1 b2 b3)/\Keys w' b1 b2 b3/\Gr w w'/\w.heap.size<=b1/\w.heap.size<=b2/\w.heap.size<=b3:=by
 unfold zxu zmv;have hmf:∀ (fn:Fn) (first cap:Array Value) (w:World),(Instr.makeFunc fn first cap).run Tryz.prog w=.ok (.func fn first cap) w:=fun _ _ _ _=>rfl
 go_enter Tryz.func76,Tryz.ntmps76
 go_wp2;refine bodyPost_ret (v:=.func (.func 118) #[] #[.pointer (some ⟨w.heap.size,0,none⟩),.pointer (some ⟨w.heap.size+1,0,none⟩),.pointer (some ⟨w.heap.size+2,0,none⟩)]) (by simp[results,Tryz.results76,go_sem]) rfl ?_
 refine⟨_,_,_,rfl,⟨?_,?_,?_⟩,?_,Nat.le_refl _,by omega,by omega⟩
 rotate_left 3
 ·repeat (with_reducible first | exact Gr.refl w | apply Gr.alloc | apply Gr.drew)
 all_goals simp(maxDischargeDepth:=12) [go_sem]
theorem Tryz.infoI64:(Tryz.prog.info? 2).map (fun i=>(i.zero,i.size,i.bytes))=some (some (.int .i64 0),1,8):=by kernel_rfl
theorem Tryz.eqNil(w:World):(binOp .eql 24 (.slice none 0 0) (.slice none 0 0)).run Tryz.prog w=.ok (.bool true) w:=by kernel_rfl
theorem Tryz.eqSome(a:Addr)(n c:Nat)(w:World):(binOp .eql 24 (.slice (some a) n c) (.slice none 0 0)).run Tryz.prog w=.ok (.bool false) w:=by kernel_rfl
set_option maxHeartbeats 1000000 in
theorem zfr(A:Option Addr)(n c:Nat)(Z:Nat->Int)(w:World)(hA:Rd w A n Z)(h0:A=none->n=0/\c=0)(hn:n<=1048576):
  Calls Tryz.prog 113 #[.slice A n c] w fun e w'=>∃ A' cap,e=.returned (.slice A' n cap)/\Keep w w'/\w'.ownsRow w.heap.size 2 1 (.slice A' n cap) n (zba n Z):=by
 cases A with
 | none =>
   obtain⟨rfl,rfl⟩:=h0 rfl;clear h0 hA;have q1:=Tryz.eqNil
   go_enter Tryz.func113,Tryz.ntmps113
   go_wp2;go_ret
   exact⟨none,0,rfl,Keep.refl _,World.ownsRow_nil _ _ _ _⟩
 | some a =>
   clear h0;obtain⟨i0,hi0,hz0,hz1,hz2⟩:=info_parts Tryz.infoI64;have hnew:=zma (hA.keep (Keep.one w (.cells #[] 2)));replace hnew:=Zq hnew;have hown:=World.ownsRow_made (base:=w.heap.size) (e:=2) (size:=1) w #[] 0 (Nat.le_refl _) (Nat.zero_le _) rfl;clear hA;have q1:=Tryz.eqSome
   go_enter Tryz.func113,Tryz.ntmps113
   go_wp2_with (at_builtin;refine wpList_append_own _ rfl _ _ 24 rfl w.heap.size 2 i0 (.int .i64 0) 1 8 Tryz.underlying24 hi0 hz0 hz1 hz2 rfl (by decide) _ _ _ rfl hown a n c (zba n Z) rfl (by simp[zba]) hnew.out (zjw n Z) (by unfold maxLen;omega) (by omega) (by simp) ?_;intro v' w2 hown2 hgrow hnil)
   go_ret
   obtain⟨A',cap,rfl,_⟩:=zan hown2;simp only[Nat.zero_add,List.nil_append] at hown2;exact⟨A',cap,by simp,zad (Keep.one w _) hgrow (fun q hq=>(hown.lt q hq).1),hown2⟩
set_option maxRecDepth 100000 in
set_option maxHeartbeats 4000000 in
theorem zor(x:zaa)(w:World)(hx:zah w x)(hm:x.m<=1048576):
  Calls Tryz.prog 74 #[x.val] w fun e w'=>∃ A c,e=.returned (x.at A c).val/\Keep w w'/\zah w' (x.at A c)/\w'.ownsRow w.heap.size 2 1 (.slice A x.m c) x.m (zba x.m x.Z):=by
 have hx:=Zq hx;have hm:=Zq hm;unfold zaa.val zaa.at
 go_enter Tryz.func74,Tryz.ntmps74
 go_wp2_with fail;refine(zfr x.A x.m x.c x.Z _ (hx.out.rd.keep ?_) hx.out.nil hm.out).mono ?_
 ·repeat (first | exact Keep.refl _ | apply Keep.alloc)
 rintro e w1 ⟨A',cap,rfl,k1,hown⟩;obtain⟨W,hW⟩:=Zn ((w.alloc (.cells #[.int .i64 x.k,.int .i64 x.p,.bool x.f,.int .i64 x.g,.slice x.A x.m x.c,.int .i64 x.a,.int .i64 x.h,.int .i64 x.d,.int .i64 x.t] 26)).alloc (.cells #[.int .i64 0,.int .i64 0,.bool false,.int .i64 0,.slice none 0 0,.int .i64 0,.int .i64 0,.int .i64 0,.int .i64 0] 26));rw[<- hW] at k1 hown;have hsz:W.heap.size=w.heap.size+1+1:=by rw[hW,World.size_alloc,World.size_alloc]
 have hb1:W.heap[w.heap.size]?=some (.cells #[.int .i64 x.k,.int .i64 x.p,.bool x.f,.int .i64 x.g,.slice x.A x.m x.c,.int .i64 x.a,.int .i64 x.h,.int .i64 x.d,.int .i64 x.t] 26 (0,0)):=by
  rw[hW];exact(Keep.one _ _).block (heap_alloc_new w _)
 have hb2:W.heap[w.heap.size+1]?=some (.cells #[.int .i64 0,.int .i64 0,.bool false,.int .i64 0,.slice none 0 0,.int .i64 0,.int .i64 0,.int .i64 0,.int .i64 0] 26 (0,0)):=by
  rw[hW,<- World.size_alloc w (.cells #[.int .i64 x.k,.int .i64 x.p,.bool x.f,.int .i64 x.g,.slice x.A x.m x.c,.int .i64 x.a,.int .i64 x.h,.int .i64 x.d,.int .i64 x.t] 26)];exact heap_alloc_new _ _
 have K1:Hid (Keep w w1):=by
  refine Keep.trans ?_ k1;rw[hW];exact((Keep.refl w).alloc _).alloc _
 replace hb1:=k1.block hb1;replace hb2:=k1.block hb2;have lt1:w.heap.size+1+1<=w1.heap.size:=by rw[<- hsz];exact k1.size
 rw[hsz] at hown;replace hown:=Zq hown;clear k1 hW hsz;have p0:w1.cell? ⟨w.heap.size,0,none⟩=some (.int .i64 x.k):=by rw[cell_of_row w1 _ _ _ _ _ hb1];rfl
 have p1:w1.cell? ⟨w.heap.size,1,none⟩=some (.int .i64 x.p):=by rw[cell_of_row w1 _ _ _ _ _ hb1];rfl
 have p2:w1.cell? ⟨w.heap.size,2,none⟩=some (.bool x.f):=by rw[cell_of_row w1 _ _ _ _ _ hb1];rfl
 have p3:w1.cell? ⟨w.heap.size,3,none⟩=some (.int .i64 x.g):=by rw[cell_of_row w1 _ _ _ _ _ hb1];rfl
 have p4:w1.cell? ⟨w.heap.size,4,none⟩=some (.slice x.A x.m x.c):=by rw[cell_of_row w1 _ _ _ _ _ hb1];rfl
 have p5:w1.cell? ⟨w.heap.size,5,none⟩=some (.int .i64 x.a):=by rw[cell_of_row w1 _ _ _ _ _ hb1];rfl
 have p6:w1.cell? ⟨w.heap.size,6,none⟩=some (.int .i64 x.h):=by rw[cell_of_row w1 _ _ _ _ _ hb1];rfl
 have p7:w1.cell? ⟨w.heap.size,7,none⟩=some (.int .i64 x.d):=by rw[cell_of_row w1 _ _ _ _ _ hb1];rfl
 have p8:w1.cell? ⟨w.heap.size,8,none⟩=some (.int .i64 x.t):=by rw[cell_of_row w1 _ _ _ _ _ hb1];rfl
 have f4:w1.frozen? ⟨w.heap.size,4,none⟩=false:=frozen_of_row w1 _ _ _ _ hb1;have r0:w1.cell? ⟨w.heap.size+1,0,none⟩=some (.int .i64 0):=by rw[cell_of_row w1 _ _ _ _ _ hb2];rfl
 have r1:w1.cell? ⟨w.heap.size+1,1,none⟩=some (.int .i64 0):=by rw[cell_of_row w1 _ _ _ _ _ hb2];rfl
 have r2:w1.cell? ⟨w.heap.size+1,2,none⟩=some (.bool false):=by rw[cell_of_row w1 _ _ _ _ _ hb2];rfl
 have r3:w1.cell? ⟨w.heap.size+1,3,none⟩=some (.int .i64 0):=by rw[cell_of_row w1 _ _ _ _ _ hb2];rfl
 have r4:w1.cell? ⟨w.heap.size+1,4,none⟩=some (.slice none 0 0):=by rw[cell_of_row w1 _ _ _ _ _ hb2];rfl
 have r5:w1.cell? ⟨w.heap.size+1,5,none⟩=some (.int .i64 0):=by rw[cell_of_row w1 _ _ _ _ _ hb2];rfl
 have r6:w1.cell? ⟨w.heap.size+1,6,none⟩=some (.int .i64 0):=by rw[cell_of_row w1 _ _ _ _ _ hb2];rfl
 have r7:w1.cell? ⟨w.heap.size+1,7,none⟩=some (.int .i64 0):=by rw[cell_of_row w1 _ _ _ _ _ hb2];rfl
 have r8:w1.cell? ⟨w.heap.size+1,8,none⟩=some (.int .i64 0):=by rw[cell_of_row w1 _ _ _ _ _ hb2];rfl
 have g0:w1.frozen? ⟨w.heap.size+1,0,none⟩=false:=frozen_of_row w1 _ _ _ _ hb2;have g1:w1.frozen? ⟨w.heap.size+1,1,none⟩=false:=frozen_of_row w1 _ _ _ _ hb2;have g2:w1.frozen? ⟨w.heap.size+1,2,none⟩=false:=frozen_of_row w1 _ _ _ _ hb2;have g3:w1.frozen? ⟨w.heap.size+1,3,none⟩=false:=frozen_of_row w1 _ _ _ _ hb2;have g4:w1.frozen? ⟨w.heap.size+1,4,none⟩=false:=frozen_of_row w1 _ _ _ _ hb2;have g5:w1.frozen? ⟨w.heap.size+1,5,none⟩=false:=frozen_of_row w1 _ _ _ _ hb2;have g6:w1.frozen? ⟨w.heap.size+1,6,none⟩=false:=frozen_of_row w1 _ _ _ _ hb2;have g7:w1.frozen? ⟨w.heap.size+1,7,none⟩=false:=frozen_of_row w1 _ _ _ _ hb2;have g8:w1.frozen? ⟨w.heap.size+1,8,none⟩=false:=frozen_of_row w1 _ _ _ _ hb2;clear hb1 hb2;replace lt1:=Zq lt1;go_wp2;refine bodyPost_ret (v:=.agg #[.int .i64 x.k,.int .i64 x.p,.bool x.f,.int .i64 x.g,.slice A' x.m cap,.int .i64 x.a,.int .i64 x.h,.int .i64 x.d,.int .i64 x.t]) (by simp[results,Tryz.results74,go_sem, *]) rfl ⟨A',cap,rfl,?_,?_⟩
 ·have K1:=K1.out
  repeat (refine Keep.set ?_ (by simp) _)
  exact K1
 ·have kk:Hid (w.heap.size+1+1<=w1.heap.size):=lt1
  have own2:=hown.out;have nil2:A'=none->x.m=0/\cap=0:=fun h=>by
   obtain⟨B,c2,e,h0⟩:=zan own2;simp only[Value.slice.injEq] at e;obtain⟨rfl,_,rfl⟩:=e;exact h0 h
  refine(fun own3=>⟨⟨znj (cap:=cap) own3 hx.out.rd.small hx.out.rd.range,nil2,hx.out.rng⟩,zbx own3 (by omega)⟩) (?_:World.ownsRow _ (w.heap.size+1+1) 2 1 (.slice A' x.m cap) x.m (zba x.m x.Z))
  repeat (refine ownsRow_setCell_below ?_ (by first | omega | (simp;omega) | simp) _)
  exact own2
end Go.Proofs.YtcogiogjpbkeaaaGreatDoor.K18
namespace Go.Proofs.YtcogiogjpbkeaaaGreatDoor
open Go.Shelf Go.RowKit Go.Lib Go.Sort
structure SLy(P:Program)(k:Nat):Prop where
 mixed:P.follows .mixedOrders=true
 fStable:P.funcs[114]?=some Tryz.f114
 fIns:P.funcs[140]?=some Tryz.f140
 fMerge:P.funcs[141]?=some Tryz.f141
 fRotate:P.funcs[151]?=some Tryz.f151
 fSwap:P.funcs[162]?=some Tryz.f162
 t0:P.underlying 0=some (TypeDesc.tuple #[])
 a0:∀ w,(isAgg 0).run P w=.ok false w
 z0:∀ w,(Go.sizeOf 0).run P w=.ok 1 w
 v0:∀ w,(zeroValue 0).run P w=.ok (Value.tuple #[]) w
 t3:P.underlying 3=some (TypeDesc.int IntKind.i64)
 a3:∀ w,(isAgg 3).run P w=.ok false w
 z3:∀ w,(Go.sizeOf 3).run P w=.ok 1 w
 v3:∀ w,(zeroValue 3).run P w=.ok (Value.int IntKind.i64 0) w
 t4:P.underlying 4=some (TypeDesc.bool)
 a4:∀ w,(isAgg 4).run P w=.ok false w
 z4:∀ w,(Go.sizeOf 4).run P w=.ok 1 w
 v4:∀ w,(zeroValue 4).run P w=.ok (Value.bool false) w
 t54:P.underlying 50=some (TypeDesc.int IntKind.u64)
 a54:∀ w,(isAgg 50).run P w=.ok false w
 z54:∀ w,(Go.sizeOf 50).run P w=.ok 1 w
 v54:∀ w,(zeroValue 50).run P w=.ok (Value.int IntKind.u64 0) w
 t22:P.underlying 28=some (TypeDesc.slice 26)
 a22:∀ w,(isAgg 28).run P w=.ok false w
 z22:∀ w,(Go.sizeOf 28).run P w=.ok 1 w
 v22:∀ w,(zeroValue 28).run P w=.ok (Value.slice none 0 0) w
 t25:P.underlying 117=some (TypeDesc.func #[26,26] #[3] false)
 a25:∀ w,(isAgg 117).run P w=.ok false w
 z25:∀ w,(Go.sizeOf 117).run P w=.ok 1 w
 v25:∀ w,(zeroValue 117).run P w=.ok (Value.nilFunc) w
 aE:∀ w,(isAgg 26).run P w=.ok true w
 zE:∀ w,(Go.sizeOf 26).run P w=.ok k w
theorem Tryz.sly:SLy Tryz.prog 9 where
 mixed:=by kernel_rfl
 fStable:=Tryz.func114
 fIns:=Tryz.func140
 fMerge:=Tryz.func141
 fRotate:=Tryz.func151
 fSwap:=Tryz.func162
 t0:=Tryz.underlying0
 a0:=Tryz.isAgg0
 z0:=Tryz.sizeOf0
 v0:=Tryz.zeroValue0
 t3:=Tryz.underlying3
 a3:=Tryz.isAgg3
 z3:=Tryz.sizeOf3
 v3:=Tryz.zeroValue3
 t4:=Tryz.underlying4
 a4:=Tryz.isAgg4
 z4:=Tryz.sizeOf4
 v4:=Tryz.zeroValue4
 t54:=Tryz.underlying50
 a54:=Tryz.isAgg50
 z54:=Tryz.sizeOf50
 v54:=Tryz.zeroValue50
 t22:=Tryz.underlying28
 a22:=Tryz.isAgg28
 z22:=Tryz.sizeOf28
 v22:=Tryz.zeroValue28
 t25:=Tryz.underlying117
 a25:=Tryz.isAgg117
 z25:=Tryz.sizeOf117
 v25:=Tryz.zeroValue117
 aE:=Tryz.isAgg26
 zE:=Tryz.sizeOf26
def zuo:Ren:=⟨fun n=>if n=20 then 140 else n,fun n=>if n=0 then 0 else if n=3 then 3 else if n=4 then 4 else if n=22 then 28 else if n=24 then 26 else if n=25 then 117 else n,fun n=>n⟩
theorem Tryz.ins:SlLaysF0.n20 Tryz.prog zuo where
 mixed:=by kernel_rfl
 f20:=⟨"slices.insertionSortCmpFunc[hammock/api.Pod]", by decide,by kernel_rfl⟩
 t0:=Tryz.underlying0
 a0:=Tryz.isAgg0
 z0:=Tryz.sizeOf0
 v0:=Tryz.zeroValue0
 t3:=Tryz.underlying3
 a3:=Tryz.isAgg3
 z3:=Tryz.sizeOf3
 v3:=Tryz.zeroValue3
 t4:=Tryz.underlying4
 a4:=Tryz.isAgg4
 z4:=Tryz.sizeOf4
 v4:=Tryz.zeroValue4
 t22:=Tryz.underlying28
 a22:=Tryz.isAgg28
 z22:=Tryz.sizeOf28
 v22:=Tryz.zeroValue28
 t25:=Tryz.underlying117
 a25:=Tryz.isAgg117
 z25:=Tryz.sizeOf117
 v25:=Tryz.zeroValue117
end Go.Proofs.YtcogiogjpbkeaaaGreatDoor
