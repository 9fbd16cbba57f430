/-
  The store: hold, release, change. Conditions: errors.errorType holds its own; at most 1000 amounts, 64 dimensions.
  The store: Get, Used, Free. Conditions: at most 64 dimensions.
-/
import Derived.Test.YtihjgcibpfajkaaGreatDoorD23
namespace Go.Proofs.YtihjgcibpfajkaaGreatDoor.T12
open Go.RowKit Go.Sort Go.Lib V12
theorem zhd{w:World}{s:Nat}{a b c:Value}{T:TypeId}(h:w.heap[s]?=some (.cells #[a,b,c] T (0,0))):w.cell? ⟨s,0,none⟩=some a∧w.cell? ⟨s,1,none⟩=some b∧w.cell? ⟨s,2,none⟩=some c∧∀ i,w.frozen? ⟨s,i,none⟩=false:=by
 refine⟨?_,?_,?_,fun i=>frozen_of_row w s i _ _ h⟩<;>rw[cell_of_row w s _ _ _ _ h]<;>rfl
theorem add2_fn(w:World)(b d e c:Nat)(B A:Option Addr)(U Z:Nat→Int)(hb:w.heap[b]?=some (.cells #[.slice B d e,.slice A d c] 24 (0,0)))(hU:Rd w B d U)(hZ:Rd w A d Z)(hd:d≤1000)(hs:∀ j,j<d→-9223372036854775808≤U j+Z j∧U j+Z j≤9223372036854775807):
  Calls Tryz.prog 100 #[.slice (some ⟨b,0,none⟩) 2 2] w fun e w'=>∃ g,e=.returned (.tuple #[.slice (some ⟨g,0,none⟩) d d,.bool true])∧Row w w' (some ⟨g,0,none⟩) d d (fun j=>U j+Z j)∧Keep w w':=by
 have c0:w.cell? ⟨b,0,none⟩=some (.slice B d e):=by rw[cell_of_row w b _ _ _ _ hb];rfl
 have c1:w.cell? ⟨b,1,none⟩=some (.slice A d c):=by rw[cell_of_row w b _ _ _ _ hb];rfl
 have hL:Rds w (some ⟨b,0,none⟩) 2 (fun r=>if r=0 then B else A) (fun _=>d) (fun r=>if r=0 then e else c) (fun r=>if r=0 then U else Z):=by
  refine⟨by omega,fun _=>⟨b,0,rfl,fun j hj=>?_⟩,fun r hr=>?_⟩
  ·rcases j with _ | _ | j
   ·exact c0
   ·exact c1
   ·omega
  ·rcases r with _ | _ | r
   ·exact hU
   ·exact hZ
   ·omega
 have hsum:∀ k,sumTo 2 (fun r=>(if r=0 then U else Z) k)=U k+Z k:=fun k=>by
  unfold sumTo sumTo sumTo;simp
 have ok:zhw 2 (fun _=>d) (fun r=>if r=0 then U else Z):=by
  refine⟨by omega,fun _ _=>rfl,fun k hk=>?_⟩
  rw[hsum];unfold inR;exact decide_eq_true (hs k hk)
 refine(ziz (some ⟨b,0,none⟩) 2 2 _ _ _ _ w hL (by omega) (fun _ _=>by omega) (by omega)).mono ?_
 rintro e w' ⟨k,⟨_,he,hr⟩ | ⟨h,_⟩⟩
 ·have e2:(fun k=>Value.int IntKind.i64 (sumTo 2 fun r=>(if r=0 then U else Z) k))=fun k=>.int .i64 (U k+Z k):=by
   funext k
   rw[hsum]
  rw[e2] at hr;exact⟨_,he,zwe hr (Nat.le_refl _) (by omega) hs,k⟩
 ·exact absurd ok h
def zpz(w:World)(d p:Nat)(x:NodeV)(r:Bool)(Z:Nat→Int)(e:Ending)(w':World):Prop :=
 (chOk d x r Z=false∧e=.returned (.bool false)∧Keep w w')∨(chOk d x r Z=true∧e=.returned (.bool true)∧∃ w1 B c,Keep w w1∧Row w w1 B d c (chU r x.U Z)∧w'=w1.setCell ⟨p,2,none⟩ (.slice B d c))
theorem zrx{d:Nat}{x:NodeV}{Z:Nat→Int}(ok:NodeOk d x)(hz:∀ j,j<d→0≤Z j∧Z j≤1099511627776):zcb d (fun j=>x.U j+Z j) d x.C=chOk d x false Z:=by
 rw[Bool.eq_iff_iff,zgp];unfold zcb;rw[decide_eq_true_eq];constructor
 ·intro h j hj
  have:=h.2 j hj;have:=ok.lo j hj;have:=hz j hj;unfold chU;simp only[Bool.false_eq_true,if_false];exact⟨by omega,by assumption⟩
 ·intro h
  refine⟨rfl,fun j hj=>?_⟩
  have:=(h j hj).2;unfold chU at this
  simpa using this
theorem aba{d:Nat}{x:NodeV}{Z:Nat→Int}(ok:NodeOk d x)(hz:∀ j,j<d→0≤Z j∧Z j≤1099511627776):zmk d x.U d Z↔chOk d x true Z=true:=by
 rw[zgp];unfold zmk zdt chU;simp only[if_true,decide_eq_true_eq];constructor
 ·intro h j hj
  have h1:=h.2 j hj;have h2:=ok.hi j hj;have h3:=hz j hj;omega
 ·intro h
  refine⟨trivial,fun j hj=>?_⟩
  have h1:=h j hj;have h2:=ok.hi j hj;have h3:=ok.max j hj;have h4:=hz j hj;omega
set_option maxRecDepth 100000 in
set_option maxHeartbeats 4000000 in
theorem zyq{w:World}{d:Nat}{x:EnV}(hx:EIs w d x)(A:Option Addr)(c:Nat)(Z:Nat→Int)(hA:Rd w A d Z)(hz:∀ j,j<d→0≤Z j∧Z j≤1099511627776)(hd:d≤1000):
  Calls Tryz.prog 71 #[.pointer (some ⟨x.p,0,none⟩),.slice A d c] w (zpz w d x.p x.nv false Z):=by
 obtain⟨W,hW⟩:∃ W,W=w.alloc (.cells #[.slice x.B d x.e,.slice A d c] 24):=⟨_,rfl⟩;have KW:Hid (Keep w W):=by rw[hW];exact Keep.one _ _
 have hb:W.heap[w.heap.size]?=some (.cells #[.slice x.B d x.e,.slice A d c] 24 (0,0)):=by rw[hW];exact heap_alloc_new _ _
 have hr:∀ j,j<d→-9223372036854775808≤x.U j+Z j∧x.U j+Z j≤9223372036854775807:=fun j hj=>by
  have h1:0≤x.U j:=hx.ok.lo j hj;have h2:x.U j≤x.C j:=hx.ok.hi j hj;have h3:x.C j≤1099511627776:=hx.ok.max j hj;have h4:=hz j hj;omega
 have cA:=add2_fn W w.heap.size d x.e c x.B A x.U Z hb (hx.ru.keep KW.out) (hA.keep KW.out) hd hr;have hf:=zrx hx.ok hz;obtain⟨f,hff⟩:∃ f,f=chOk d x.nv false Z:=⟨_,rfl⟩;rw[← hff] at hf;have cF:Hid (∀ W' B,Keep w W'→Rd W' B d (fun j=>x.U j+Z j)→Calls Tryz.prog 35 #[.slice B d d,.slice x.A d x.c] W' fun e w'=>e=.returned (.bool f)∧Keep W' w'):=fun W' B k r =>
  (zqf B x.A d d d x.c _ x.C W' r (hx.rc.keep k) f hf).mono fun _ _ h=>⟨h.1,h.2.keep⟩
 have eU:Hid ((fun j=>x.U j+Z j)=chU false x.nv.U Z):=by show _=_;funext j;unfold chU;simp;rfl
 have hblk:=Lib.hid hx.blk;have c12:=zhd hx.blk;obtain⟨_,c1,c2,_⟩:=c12;have T:Hid (∀ W',Keep w W'→W'.cell? ⟨x.p,1,none⟩=some (.slice x.A d x.c)∧W'.cell? ⟨x.p,2,none⟩=some (.slice x.B d x.e)∧∀ i,W'.frozen? ⟨x.p,i,none⟩=false):=fun W' k=>(zhd (k.block hx.blk)).2
 obtain⟨p,hp⟩:∃ p,p=x.p:=⟨_,rfl⟩;rw[← hp] at c1 c2 T hblk ⊢;replace hp:=Lib.hid hp;replace hff:=Lib.hid hff;replace hb:=Lib.hid hb;replace cA:=Lib.hid cA;have hpl:=zbd c2;clear hx hA hz hr hf
 go_enter Tryz.func71,Tryz.ntmps71
 go_wp2_with fail;rw[← hW];replace hW:=Lib.hid hW;refine cA.out.mono ?_;rintro e w1 ⟨g,rfl,R1,k1⟩;have K1:=Lib.hid (KW.out.trans k1);have cF1:=Lib.hid (cF.out w1 _ K1.out R1.rd);obtain⟨d1,d2,d3⟩:=T.out w1 K1.out;replace R1:=Lib.hid R1;replace k1:=Lib.hid k1;clear cA c1 c2 hpl;go_wp2_with fail;refine cF1.out.mono ?_;rintro e w2 ⟨rfl,k2⟩;have K2:=Lib.hid (K1.out.trans k2);have R2:Hid (Row w w2 (some ⟨g,0,none⟩) d d (fun j=>x.U j+Z j)):=(R1.out.keep k2).low KW.out.size
 rw[eU.out] at R2;clear d1 d2 d3;obtain⟨e1,e2,e3⟩:=T.out w2 K2.out;replace k2:=Lib.hid k2;cases f with
 | false =>
   go_wp2;go_ret
   exact Or.inl ⟨hff.out.symm,rfl,K2.out⟩
 | true =>
   go_wp2;go_ret
   exact Or.inr ⟨hff.out.symm,rfl,w2,_,_,K2.out,R2.out,rfl⟩
set_option maxRecDepth 100000 in
set_option maxHeartbeats 4000000 in
theorem zoq{w:World}{d:Nat}{x:EnV}(hx:EIs w d x)(A:Option Addr)(c:Nat)(Z:Nat→Int)(hA:Rd w A d Z)(hz:∀ j,j<d→0≤Z j∧Z j≤1099511627776)(hd:d≤1000):
  Calls Tryz.prog 107 #[.pointer (some ⟨x.p,0,none⟩),.slice A d c] w (zpz w d x.p x.nv true Z):=by
 have cS:=zrd x.B A d d x.e c x.U Z w hx.ru hA (by omega)
 have hf:=aba hx.ok hz;have hr:Hid (chOk d x.nv true Z=true→∀ j,j<d→-9223372036854775808≤x.U j - Z j∧x.U j - Z j≤9223372036854775807):=fun h j hj=>by
  have h1:0≤x.U j:=hx.ok.lo j hj;have h2:x.U j≤x.C j:=hx.ok.hi j hj;have h3:x.C j≤1099511627776:=hx.ok.max j hj;have h4:=hz j hj;omega
 have eU:Hid ((fun j=>x.U j - Z j)=chU true x.nv.U Z):=by show _=_;funext j;unfold chU;simp;rfl
 obtain⟨_,c1,c2,_⟩:=zhd hx.blk;have T:Hid (∀ W',Keep w W'→W'.cell? ⟨x.p,1,none⟩=some (.slice x.A d x.c)∧W'.cell? ⟨x.p,2,none⟩=some (.slice x.B d x.e)∧∀ i,W'.frozen? ⟨x.p,i,none⟩=false):=fun W' k=>(zhd (k.block hx.blk)).2
 obtain⟨f,hff⟩:∃ f,f=chOk d x.nv true Z:=⟨_,rfl⟩;rw[← hff] at hf hr;obtain⟨p,hp⟩:∃ p,p=x.p:=⟨_,rfl⟩;rw[← hp] at c1 c2 T ⊢;replace hp:=Lib.hid hp;replace hff:=Lib.hid hff;replace hf:=Lib.hid hf;replace cS:=Lib.hid cS;clear hx hA hz
 go_enter Tryz.func107,Tryz.ntmps107
 go_wp2_with fail;refine cS.out.mono ?_;rintro e w1 ⟨k1,⟨ok,rfl,R1⟩ | ⟨no,rfl⟩⟩
 ·have K1:Hid (Keep w w1):=k1
  have ft:f=true:=hf.out.1 ok;have R2:Hid (Row w w1 (some ⟨w.heap.size,0,none⟩) d d (fun j=>x.U j - Z j)):=zwe R1 (Nat.le_refl _) (by omega) (hr.out ft)
  rw[eU.out] at R2;clear c1 c2;obtain⟨e1,e2,e3⟩:=T.out w1 K1.out;replace k1:=Lib.hid k1;replace R1:=Lib.hid R1;replace ok:=Lib.hid ok;go_wp2;go_ret
  exact Or.inr ⟨hff.out.symm.trans ft,rfl,w1,_,_,K1.out,R2.out,rfl⟩
 ·have K1:Hid (Keep w w1):=k1
  have ft:f=false:=by
   cases f
   ·rfl
   ·exact absurd (hf.out.2 rfl) no
  replace k1:=Lib.hid k1;replace no:=Lib.hid no;go_wp2;go_ret
  exact Or.inl ⟨hff.out.symm.trans ft,rfl,K1.out⟩
def After(w w':World)(d:Nat)(s:Int)(q t m:Nat)(E:List EnV)(M:List NodeV):Prop :=
 ∃ E',SC w' d s q t m E'∧E'.map EnV.nv=M∧FrS (DE m E) w w'∧(∀ k,DE m E' k→DE m E k∨w.heap.size≤k)∧∀ k,FE d q t m E' k→FE d q t m E k∨w.heap.size≤k
section
variable{w w':World}{d:Nat}{s:Int}{q t m:Nat}{E:List EnV}
theorem After.same(h:SC w d s q t m E)(k:Keep w w'):After w w' d s q t m E (E.map EnV.nv):=⟨E,h.keep k,rfl,FrS.of k,fun _ h=>Or.inl h,fun _ h=>Or.inl h⟩
theorem After.used(h:SC w d s q t m E){id:Int}(hk:id∈zbt E){w1:World}{B:Option Addr}{c:Nat}{U:Nat→Int}(k1:Keep w w1)(R:Row w w1 B d c U)(ok:NodeOk d ⟨id,(nget (E.map EnV.nv) id).C,U⟩):
  After w (w1.setCell ⟨(eget E id).p,2,none⟩ (.slice B d c)) d s q t m E (G.rep NodeV.k (E.map EnV.nv) ⟨id,(nget (E.map EnV.nv) id).C,U⟩):=by
 have h1:=h.keep k1;have hx:=(zdm hk).1;rw[← adh hk B c U];rw[← nv_get] at ok;refine⟨_,h1.used hk B c U R.rd R.nil R.ty ok,rfl,FrS.after k1 (FrS.ent (h1.is _ hx).blk (Or.inr ⟨_,hx,rfl⟩)),fun k hk2=>Or.inl (DE.rep (y:={ eget E id with B:=B,e:=c,U:=U }) hx rfl k hk2),fun k hk2=>?_⟩
 rcases hk2 with rfl | rfl | rfl | ⟨y,hy,h2⟩
 ·exact Or.inl (Or.inl rfl)
 ·exact Or.inl (Or.inr (Or.inl rfl))
 ·exact Or.inl (Or.inr (Or.inr (Or.inl rfl)))
 ·rcases G.rep_mem hy with hy | rfl
  ·exact Or.inl (Or.inr (Or.inr (Or.inr ⟨y,hy,h2⟩)))
  ·rcases h2 with h2 | ⟨hd,⟨o,h2⟩ | ⟨o,h2⟩⟩
   ·exact Or.inl (Or.inr (Or.inr (Or.inr ⟨_,hx,Or.inl h2⟩)))
   ·exact Or.inl (Or.inr (Or.inr (Or.inr ⟨_,hx,Or.inr ⟨hd,Or.inl ⟨o,h2⟩⟩⟩)))
   ·right
    obtain⟨b,off,e,hb,_⟩:=R.new hd;have e2:B=some ⟨k,o,none⟩:=h2;rw[e] at e2;simp only[Option.some.injEq,Addr.mk.injEq,and_true] at e2;omega
set_option maxRecDepth 100000 in
set_option maxHeartbeats 4000000 in
theorem zmr(h:SC w d s q t m E)(id:Int)(A:Option Addr)(n c:Nat)(Z:Nat→Int)(hA:Rd w A n Z)(hd:d≤64):
  Calls Tryz.prog 70 #[.pointer (some ⟨q,0,none⟩),.int .i64 id,.slice A n c,.func (.func 71) #[] #[]] w fun e w'=>e=.returned (fltC (chC (E.map EnV.nv) d id n Z false) 0)∧After w w' d s q t m E (chL (E.map EnV.nv) d id n Z false):=by
 have hn:=Lib.hid (fun x y W=>zep x y W)
 unfold chL chC;rw[nv_keys]
 by_cases hk:id∈zbt E
 ·rw[if_neg (not_not_intro hk)]
  have hF:=Lib.hid (zll h hk);have hW:=zei A n c Z d w hA;have c0:=h.c0
  by_cases hw:0≤zae n Z d
  ·rw[if_pos hw,if_neg (by decide)]
   obtain⟨g,hg⟩:∃ g,g=zae n Z d:=⟨_,rfl⟩;rw[← hg] at hW hw;replace hg:=Lib.hid hg;replace hW:=Lib.hid hW;have fin:=Lib.hid (After.same h (Keep.refl w));unfold fltC flt;rw[if_neg (by decide)]
   clear h hk hA
   go_enter Tryz.func70,Tryz.ntmps70
   go_wp2_with fail;refine hF.out.mono ?_;rintro e w1 ⟨rfl,rfl⟩;go_wp2_with fail;refine hW.out.mono ?_;rintro e w1 ⟨rfl,rfl⟩;go_wp2_with fail;refine(hn.out 3 0 _).mono ?_;rintro e w1 ⟨rfl,rfl⟩;go_wp2;go_ret
   exact⟨rfl,fin.out⟩
  ·rw[if_neg hw]
   obtain⟨rfl,hz⟩:=zcp hw;have hx:=(zdm hk).1;have hB:=zyq (h.is _ hx) A c Z hA hz (by omega)
   have e0:G.get NodeV.k zn (E.map EnV.nv) id=(eget E id).nv:=(nv_get E id).symm;rw[e0];have ok0:=(h.is _ hx).ok;have fin:Hid (∀ w1 B c,chOk n (eget E id).nv false Z=true→Keep w w1→Row w w1 B n c (chU false (eget E id).nv.U Z)→After w (w1.setCell ⟨(eget E id).p,2,none⟩ (.slice B n c)) n s q t m E (G.rep NodeV.k (E.map EnV.nv) ⟨id,(eget E id).nv.C,chU false (eget E id).nv.U Z⟩)):=fun w1 B c hc k R=>by
    have:=After.used h hk k R (by
     rw[← nv_get];rw[zgp] at hc;have hk2:=(zdm hk).2
     exact⟨by rw[← hk2];exact ok0.k,fun j hj=>(hc j hj).1,fun j hj=>(hc j hj).2,ok0.max⟩)
    rw[← nv_get] at this;exact this
   have fin0:Hid (∀ w',Keep w w'→After w w' n s q t m E (E.map EnV.nv)):=fun w' k=>After.same h k
   obtain⟨x,hxx⟩:∃ x,x=eget E id:=⟨_,rfl⟩;rw[← hxx] at hF hB fin ⊢;obtain⟨g,hg⟩:∃ g,g=zae n Z n:=⟨_,rfl⟩;rw[← hg] at hW hw;obtain⟨ok,hok⟩:∃ ok,ok=chOk n x.nv false Z:=⟨_,rfl⟩;unfold zpz at hB;rw[← hok] at hB fin ⊢;replace hok:=Lib.hid hok;replace hg:=Lib.hid hg;replace hW:=Lib.hid hW;replace hB:=Lib.hid hB;obtain⟨p,hp⟩:∃ p,p=x.p:=⟨_,rfl⟩;rw[← hp] at hF hB fin;replace hp:=Lib.hid hp;replace hxx:=Lib.hid hxx;clear h hk hA hx e0 ok0 hz
   go_enter Tryz.func70,Tryz.ntmps70
   go_wp2_with fail;refine hF.out.mono ?_;rintro e w1 ⟨rfl,rfl⟩;go_wp2_with fail;refine hW.out.mono ?_;rintro e w1 ⟨rfl,rfl⟩;go_wp2_with fail;refine hB.out.mono ?_;rintro e w1 (⟨h1,rfl,k⟩ | ⟨h1,rfl,w2,B,c2,k,R,hw'⟩)
   ·have k:=Lib.hid k
    subst h1;go_wp2_with fail;refine(hn.out 10 0 _).mono ?_;rintro e w2 ⟨rfl,rfl⟩;go_wp2;go_ret
    exact⟨rfl,fin0.out _ k.out⟩
   ·have A5:=Lib.hid (fin.out w2 B c2 h1 k R)
    rw[← hw'] at A5;subst h1;replace hw':=Lib.hid hw';replace R:=Lib.hid R;replace k:=Lib.hid k;go_wp2;go_ret
    exact⟨rfl,A5.out⟩
 ·rw[if_pos hk,if_neg (by decide)]
  have hF:=Lib.hid (zjh h hk);have fin:=Lib.hid (After.same h (Keep.refl w));unfold fltC flt;rw[if_neg (by decide)]
  clear h hk hA
  go_enter Tryz.func70,Tryz.ntmps70
  go_wp2_with fail;refine hF.out.mono ?_;rintro e w1 ⟨rfl,rfl⟩;go_wp2_with fail;refine(hn.out 5 0 _).mono ?_;rintro e w1 ⟨rfl,rfl⟩;go_wp2;go_ret
  exact⟨rfl,fin.out⟩
theorem nhold_fn(h:SC w d s q t m E)(id:Int)(A:Option Addr)(n c:Nat)(Z:Nat→Int)(hA:Rd w A n Z)(hd:d≤64):
  Calls Tryz.prog 42 #[.pointer (some ⟨q,0,none⟩),.int .i64 id,.slice A n c] w fun e w'=>e=.returned (fltC (chC (E.map EnV.nv) d id n Z false) 0)∧After w w' d s q t m E (chL (E.map EnV.nv) d id n Z false):=by
 have hC:=Lib.hid (zmr h id A n c Z hA hd);clear h hA
 go_enter Tryz.func42,Tryz.ntmps42
 go_wp2_with fail;refine hC.out.mono ?_;rintro e w1 ⟨rfl,F⟩;have F:=Lib.hid F;go_wp2;go_ret
 exact⟨rfl,F.out⟩
set_option maxRecDepth 100000 in
set_option maxHeartbeats 4000000 in
theorem zjf(h:SC w d s q t m E)(id:Int)(A:Option Addr)(n c:Nat)(Z:Nat→Int)(hA:Rd w A n Z)(hd:d≤64):
  Calls Tryz.prog 70 #[.pointer (some ⟨q,0,none⟩),.int .i64 id,.slice A n c,.func (.func 107) #[] #[]] w fun e w'=>e=.returned (fltC (chC (E.map EnV.nv) d id n Z true) 0)∧After w w' d s q t m E (chL (E.map EnV.nv) d id n Z true):=by
 have hn:=Lib.hid (fun x y W=>zep x y W)
 unfold chL chC;rw[nv_keys]
 by_cases hk:id∈zbt E
 ·rw[if_neg (not_not_intro hk)]
  have hF:=Lib.hid (zll h hk);have hW:=zei A n c Z d w hA;have c0:=h.c0
  by_cases hw:0≤zae n Z d
  ·rw[if_pos hw,if_neg (by decide)]
   obtain⟨g,hg⟩:∃ g,g=zae n Z d:=⟨_,rfl⟩;rw[← hg] at hW hw;replace hg:=Lib.hid hg;replace hW:=Lib.hid hW;have fin:=Lib.hid (After.same h (Keep.refl w));unfold fltC flt;rw[if_neg (by decide)]
   clear h hk hA
   go_enter Tryz.func70,Tryz.ntmps70
   go_wp2_with fail;refine hF.out.mono ?_;rintro e w1 ⟨rfl,rfl⟩;go_wp2_with fail;refine hW.out.mono ?_;rintro e w1 ⟨rfl,rfl⟩;go_wp2_with fail;refine(hn.out 3 0 _).mono ?_;rintro e w1 ⟨rfl,rfl⟩;go_wp2;go_ret
   exact⟨rfl,fin.out⟩
  ·rw[if_neg hw]
   obtain⟨rfl,hz⟩:=zcp hw;have hx:=(zdm hk).1;have hB:=zoq (h.is _ hx) A c Z hA hz (by omega)
   have e0:G.get NodeV.k zn (E.map EnV.nv) id=(eget E id).nv:=(nv_get E id).symm;rw[e0];have ok0:=(h.is _ hx).ok;have fin:Hid (∀ w1 B c,chOk n (eget E id).nv true Z=true→Keep w w1→Row w w1 B n c (chU true (eget E id).nv.U Z)→After w (w1.setCell ⟨(eget E id).p,2,none⟩ (.slice B n c)) n s q t m E (G.rep NodeV.k (E.map EnV.nv) ⟨id,(eget E id).nv.C,chU true (eget E id).nv.U Z⟩)):=fun w1 B c hc k R=>by
    have:=After.used h hk k R (by
     rw[← nv_get];rw[zgp] at hc;have hk2:=(zdm hk).2
     exact⟨by rw[← hk2];exact ok0.k,fun j hj=>(hc j hj).1,fun j hj=>(hc j hj).2,ok0.max⟩)
    rw[← nv_get] at this;exact this
   have fin0:Hid (∀ w',Keep w w'→After w w' n s q t m E (E.map EnV.nv)):=fun w' k=>After.same h k
   obtain⟨x,hxx⟩:∃ x,x=eget E id:=⟨_,rfl⟩;rw[← hxx] at hF hB fin ⊢;obtain⟨g,hg⟩:∃ g,g=zae n Z n:=⟨_,rfl⟩;rw[← hg] at hW hw;obtain⟨ok,hok⟩:∃ ok,ok=chOk n x.nv true Z:=⟨_,rfl⟩;unfold zpz at hB;rw[← hok] at hB fin ⊢;replace hok:=Lib.hid hok;replace hg:=Lib.hid hg;replace hW:=Lib.hid hW;replace hB:=Lib.hid hB;obtain⟨p,hp⟩:∃ p,p=x.p:=⟨_,rfl⟩;rw[← hp] at hF hB fin;replace hp:=Lib.hid hp;replace hxx:=Lib.hid hxx;clear h hk hA hx e0 ok0 hz
   go_enter Tryz.func70,Tryz.ntmps70
   go_wp2_with fail;refine hF.out.mono ?_;rintro e w1 ⟨rfl,rfl⟩;go_wp2_with fail;refine hW.out.mono ?_;rintro e w1 ⟨rfl,rfl⟩;go_wp2_with fail;refine hB.out.mono ?_;rintro e w1 (⟨h1,rfl,k⟩ | ⟨h1,rfl,w2,B,c2,k,R,hw'⟩)
   ·have k:=Lib.hid k
    subst h1;go_wp2_with fail;refine(hn.out 10 0 _).mono ?_;rintro e w2 ⟨rfl,rfl⟩;go_wp2;go_ret
    exact⟨rfl,fin0.out _ k.out⟩
   ·have A5:=Lib.hid (fin.out w2 B c2 h1 k R)
    rw[← hw'] at A5;subst h1;replace hw':=Lib.hid hw';replace R:=Lib.hid R;replace k:=Lib.hid k;go_wp2;go_ret
    exact⟨rfl,A5.out⟩
 ·rw[if_pos hk,if_neg (by decide)]
  have hF:=Lib.hid (zjh h hk);have fin:=Lib.hid (After.same h (Keep.refl w));unfold fltC flt;rw[if_neg (by decide)]
  clear h hk hA
  go_enter Tryz.func70,Tryz.ntmps70
  go_wp2_with fail;refine hF.out.mono ?_;rintro e w1 ⟨rfl,rfl⟩;go_wp2_with fail;refine(hn.out 5 0 _).mono ?_;rintro e w1 ⟨rfl,rfl⟩;go_wp2;go_ret
  exact⟨rfl,fin.out⟩
theorem nrelease_fn(h:SC w d s q t m E)(id:Int)(A:Option Addr)(n c:Nat)(Z:Nat→Int)(hA:Rd w A n Z)(hd:d≤64):
  Calls Tryz.prog 85 #[.pointer (some ⟨q,0,none⟩),.int .i64 id,.slice A n c] w fun e w'=>e=.returned (fltC (chC (E.map EnV.nv) d id n Z true) 0)∧After w w' d s q t m E (chL (E.map EnV.nv) d id n Z true):=by
 have hC:=Lib.hid (zjf h id A n c Z hA hd);clear h hA
 go_enter Tryz.func85,Tryz.ntmps85
 go_wp2_with fail;refine hC.out.mono ?_;rintro e w1 ⟨rfl,F⟩;have F:=Lib.hid F;go_wp2;go_ret
 exact⟨rfl,F.out⟩
end
end Go.Proofs.YtihjgcibpfajkaaGreatDoor.T12
namespace Go.Proofs.YtihjgcibpfajkaaGreatDoor.T12
open Go.RowKit Go.Sort Go.Lib V12
section
variable{w w':World}{d:Nat}{s:Int}{q t m:Nat}{E:List EnV}
set_option maxRecDepth 100000 in
set_option maxHeartbeats 4000000 in
theorem nget_in(h:SC w d s q t m E){id:Int}(hk:id∈zbt E)(hd:d≤64):Calls Tryz.prog 32 #[.pointer (some ⟨q,0,none⟩),.int .i64 id] w fun e w'=>∃ A c,e=.returned (.tuple #[.agg #[.int .i64 id,.slice A d c],.bool true])∧Row w w' A d c (eget E id).C∧Keep w w':=by
 obtain⟨W,hW⟩:∃ W,W=w.alloc (.cells #[.int .i64 0,.slice none 0 0] 55):=⟨_,rfl⟩;have KW:Hid (Keep w W):=by rw[hW];exact Keep.one _ _
 obtain⟨b,hb⟩:∃ b,b=w.heap.size:=⟨_,rfl⟩;have Y:Hid (W.heap[b]?=some (.cells #[.int .i64 0,.slice none 0 0] 55 (0,0))):=by rw[hW,hb];exact heap_alloc_new _ _
 have hsz:Hid (W.heap.size=b+1):=by show _=_;rw[hW,World.size_alloc,hb]
 have h1:=h.keep KW.out;have hF:=Lib.hid (zll h1 hk);have hx:=h1.is _ (zdm hk).1;have e0:=(zdm hk).2;obtain⟨c0,c1,_,_⟩:=zhd hx.blk;have cC:=zmt (eget E id).k _ d _ _ W hx.rc hx.na (by omega)
 rw[e0] at c0 cC;replace cC:=Lib.hid cC;obtain⟨x,hxx⟩:∃ x,x=eget E id:=⟨_,rfl⟩;rw[← hxx] at hF c0 c1 cC ⊢;obtain⟨p,hp⟩:∃ p,p=x.p:=⟨_,rfl⟩;rw[← hp] at hF c0 c1;replace hp:=Lib.hid hp;replace hxx:=Lib.hid hxx;have hbw:Hid (w.heap.size≤b):=by show _≤_;omega
 clear h h1 hk hx e0
 go_enter Tryz.func32,Tryz.ntmps32
 go_wp2_with fail;rw[← hW,← hb];replace hW:=Lib.hid hW;replace hb:=Lib.hid hb;refine hF.out.mono ?_;rintro e w1 ⟨rfl,rfl⟩;go_wp2_with fail;refine cC.out.mono ?_;rintro e w1 ⟨A,c,rfl,R,k⟩;obtain⟨y0,y1,yf⟩:=cel2 (k.block Y.out);have R:=Lib.hid R;have k:=Lib.hid k;clear c0 c1 cC;have B5:Hid (((w1.setCell ⟨b,0,none⟩ (.int .i64 id)).setCell ⟨b,1,none⟩ (.slice A d c)).heap[b]?=some (.cells #[.int .i64 id,.slice A d c] 55 (0,0))):=two_set (k.out.block Y.out);have K5:Hid (Keep w ((w1.setCell ⟨b,0,none⟩ (.int .i64 id)).setCell ⟨b,1,none⟩ (.slice A d c))):=two_keep (KW.out.trans k.out) hbw.out
 have R5:Hid (Row w ((w1.setCell ⟨b,0,none⟩ (.int .i64 id)).setCell ⟨b,1,none⟩ (.slice A d c)) A d c x.C):=(R.out.fr zxk fun b2 o e hp hd=>by
  obtain⟨b',o',e',hb',_⟩:=R.out.new hp;rw[e] at e';have e2:=Option.some.inj e';simp only[Addr.mk.injEq,and_true] at e2;have:=hsz.out
  omega).low KW.out.size
 go_wp2;obtain⟨z0,z1,_⟩:=cel2 B5.out;refine bodyPost_ret (v:=.tuple #[.agg #[.int .i64 id,.slice A d c],.bool true]) (by simp[results,Tryz.results32,go_sem,z0,z1]) rfl ⟨A,c,rfl,R5.out,K5.out⟩
set_option maxRecDepth 100000 in
set_option maxHeartbeats 4000000 in
theorem nget_out(h:SC w d s q t m E){id:Int}(hk:id∉zbt E):Calls Tryz.prog 32 #[.pointer (some ⟨q,0,none⟩),.int .i64 id] w fun e w'=>e=.returned (.tuple #[.agg #[.int .i64 0,.slice none 0 0],.bool false])∧Keep w w':=by
 obtain⟨W,hW⟩:∃ W,W=w.alloc (.cells #[.int .i64 0,.slice none 0 0] 55):=⟨_,rfl⟩;have KW:Hid (Keep w W):=by rw[hW];exact Keep.one _ _
 obtain⟨b,hb⟩:∃ b,b=w.heap.size:=⟨_,rfl⟩;have Y:W.heap[b]?=some (.cells #[.int .i64 0,.slice none 0 0] 55 (0,0)):=by rw[hW,hb];exact heap_alloc_new _ _
 have hF:=Lib.hid (zjh (h.keep KW.out) hk);obtain⟨y0,y1,yf⟩:=cel2 Y;have B5:Hid (((W.setCell ⟨b,0,none⟩ (.int .i64 0)).setCell ⟨b,1,none⟩ (.slice none 0 0)).heap[b]?=some (.cells #[.int .i64 0,.slice none 0 0] 55 (0,0))):=two_set Y;have K5:Hid (Keep w ((W.setCell ⟨b,0,none⟩ (.int .i64 0)).setCell ⟨b,1,none⟩ (.slice none 0 0))):=two_keep KW.out (by omega)
 replace Y:=Lib.hid Y;clear h hk
 go_enter Tryz.func32,Tryz.ntmps32
 go_wp2_with fail;rw[← hW,← hb];replace hW:=Lib.hid hW;replace hb:=Lib.hid hb;refine hF.out.mono ?_;rintro e w1 ⟨rfl,rfl⟩;go_wp2;obtain⟨z0,z1,_⟩:=cel2 B5.out;refine bodyPost_ret (v:=.tuple #[.agg #[.int .i64 0,.slice none 0 0],.bool false]) (by simp[results,Tryz.results32,go_sem,z0,z1]) rfl ⟨rfl,K5.out⟩
end
end Go.Proofs.YtihjgcibpfajkaaGreatDoor.T12
