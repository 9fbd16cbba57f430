/-
  The store: Submit where the pod is added. Conditions: at most 1000 pods; errors.errorType holds its own.
-/
import Derived.Test.YtihjgcibpfajkaaGreatDoorD28
import Derived.Test.YtihjgcibpfajkaaGreatDoorD29
namespace Go.Proofs.YtihjgcibpfajkaaGreatDoor.T13
open Go.RowKit Go.Sort Go.Lib V12
def sbV(x:zaa)(B:Option Addr)(d:Nat)(a:Int):zaa:=⟨x.k,x.p,x.f,x.g,B,x.m,d,x.Z,a,1,-1,-1⟩
theorem aec{x:zaa}{B:Option Addr}{d:Nat}{a:Int}(o:zcx (x.at B d))(ha:I64 a):zcx (sbV x B d a):=⟨o.small,o.range,o.nil,o.rng.1,o.rng.2.1,o.rng.2.2.1,ha,(by unfold I64;omega:I64 1),(by unfold I64;omega:I64 (-1)),(by unfold I64;omega:I64 (-1))⟩
theorem adf(x:zaa)(B:Option Addr)(d:Nat)(a:Int):nm (sbV x B d a)=zcl x a:=rfl
def zjb(w:World)(b:Nat)(x:zaa)(a:Int):World:=((((put9 w b x).setCell ⟨b,5,none⟩ (.int .i64 a)).setCell ⟨b,6,none⟩ (.int .i64 1)).setCell ⟨b,7,none⟩ (.int .i64 (-1))).setCell ⟨b,8,none⟩ (.int .i64 (-1))
theorem zro{w:World}{b:Nat}(x z:zaa)(a:Int){T:TypeId}(h:w.heap[b]?=some (.cells (zab z) T (0,0))):(zjb w b x a).heap[b]?=some (.cells (zab (sbV x x.A x.c a)) T (0,0)):=
 (zbp (zbp (zbp (zbp (zbs x z h)).2.2.2.2.2.1).2.2.2.2.2.2.1).2.2.2.2.2.2.2.1).2.2.2.2.2.2.2.2
theorem zge{w:World}{b k:Nat}(x:zaa)(a:Int)(h:k≠b):(zjb w b x a).heap[k]?=w.heap[k]?:=by
 unfold zjb;rw[Below.heap_setCell _ _ _ _ h,Below.heap_setCell _ _ _ _ h,Below.heap_setCell _ _ _ _ h,Below.heap_setCell _ _ _ _ h,zce x h]
theorem zyh{D:Nat→Prop}{w0 w:World}{b:Nat}(x:zaa)(a:Int)(k:Fr D w0 w)(hs:w0.heap.size≤b):Fr D w0 (zjb w b x a):=
 ((((zma x k hs).set (by right;exact hs) _).set (by right;exact hs) _).set (by right;exact hs) _).set (by right;exact hs) _
structure Mid(w:World)(b0:Nat)(s:Int)(q t m:Nat)(A:Option Addr)(c n:Nat)(P:Nat→zaa)(k:Int):Prop where
 hq:w.heap[q]?=some (.cells #[.slice A n c,.pointer (some ⟨t,0,none⟩)] 122 (0,0))
 tb:TMI w (if 0≤s then s else 0) t m (prs P n++[(k,.int .i64 n)])
 rp:zam w b0 (.slice A n c) n P
section
variable{w w':World}{b0:Nat}{s:Int}{q t m:Nat}{A:Option Addr}{c n:Nat}{P:Nat→zaa}{k:Int}
theorem Mid.of(h:ST w b0 s q t m A c n P)(f:Fr (·=m) w w')(ht:TMI w' (if 0≤s then s else 0) t m (prs P n++[(k,.int .i64 n)])):Mid w' b0 s q t m A c n P k :=
 ⟨(f.block _ (zbl h.hq) (h.offT h.tq)).trans h.hq,ht,zal h.rp.row (fun g hg=>f.block _ (h.rp.row.lt g hg).2 (h.offT (h.tg hg))),fun j hj=>zal (h.rp.own j hj) (fun g hg=>f.block _ ((h.rp.own j hj).lt g hg).2 (h.offT (h.tr hj hg))),h.rp.ok⟩
theorem Mid.frame(h:Mid w b0 s q t m A c n P k)(f:∀ i,FE q t m A c n P i→w'.heap[i]?=w.heap[i]?):Mid w' b0 s q t m A c n P k :=
 ⟨(f q (Or.inl rfl)).trans h.hq,⟨(f t (Or.inr (Or.inl rfl))).trans h.tb.hp,h.tb.mp.of (f m (Or.inr (Or.inr (Or.inl rfl)))),h.tb.lo,h.tb.hi,h.tb.len⟩,zal h.rp.row fun g hg=>f g (Or.inr (Or.inr (Or.inr (Or.inl hg)))),fun j hj=>zal (h.rp.own j hj) fun g hg=>f g (Or.inr (Or.inr (Or.inr (Or.inr ⟨j,hj,hg⟩)))),h.rp.ok⟩
theorem Mid.keep(h:Mid w b0 s q t m A c n P k)(kp:Keep w w'):Mid w' b0 s q t m A c n P k:=⟨kp.block h.hq,h.tb.keep kp,h.rp.keep kp⟩
theorem Mid.offm(h:Mid w b0 s q t m A c n P k){b:Nat}{T:TypeId}(hT:Typ w b T):¬b=m:=fun e=>by
 obtain⟨es,x,e2,_⟩:=h.tb.mp.length_le;obtain⟨cs,loc,e3⟩:=hT;rw[e,e2] at e3;cases e3
theorem Mid.fin{W W1:World}(H:ST w b0 s q t m A c n P)(h:Mid W b0 s q t m A c n P k)(kp:Keep W W1){y:zaa}(hk:y.k=k)(hR:Req W b0 y)(ok:zcx y){A':Option Addr}{c':Nat}(hr:w'.ownsRow b0 26 9 (.slice A' (n+1) c') (n+1) (zaq P n++y.cells))(hg:W1.grownBy w' (Value.slice A n c).ownBlock)(lk:LOk ((lst (put P n y) (n+1)).map nm)):
  ST (w'.setCell ⟨q,0,none⟩ (.slice A' (n+1) c')) b0 s q t m A' c' (n+1) (put P n y):=by
 have h1:=h.keep kp;have tq:Typ W1 q 122:=⟨_,_,h1.hq⟩;have tt:Typ W1 t 161:=⟨_,_,h1.tb.hp⟩;have tg:∀ g,(Value.slice A n c).ownBlock=some g→Typ W1 g 26:=fun g hg=>zcm h1.rp.row hg
 have bl:∀ i T,Typ W1 i T→T≠26→w'.heap[i]?=W1.heap[i]?:=fun i T hT hne=>hg.block i hT.lt fun e=>hne (zbw hT (tg i e.symm))
 have bq:=bl q _ tq (by decide)
 have bm:w'.heap[m]?=W1.heap[m]?:=hg.block m h1.tb.mlt fun e=>h1.offm (tg m e.symm) rfl
 have R:=h1.rp.more (own_keep hR kp) ok hr hg;have o:∀ i,i≠q→(w'.setCell ⟨q,0,none⟩ (.slice A' (n+1) c')).heap[i]?=w'.heap[i]?:=fun i hi=>Below.heap_setCell _ _ _ _ hi
 have tq':Typ w' q 122:=tq.same bq;have nt:t≠q:=fun e=>absurd (zbw tt (by rw[e];exact tq)) (by decide)
 have nmq:m≠q:=fun e=>h1.offm tq e.symm
 have hl:=h1.tb;refine⟨heap_setCell_same _ _ _ _ _ _ (bq.trans h1.hq),⟨?_,?_,hl.lo,hl.hi,?_⟩,⟨?_,fun j hj=>?_,R.ok⟩,H.bq,H.bt,H.bm,lk⟩
 ·rw[o t nt,bl t _ tt (by decide)];exact hl.hp
 ·rw[zvo,hk]
  exact hl.mp.of ((o m nmq).trans bm)
 ·have:=hl.len
  rw[List.length_append,zgy] at this;rw[zgy];exact this
 ·exact zal R.row fun g hg=>o g fun e=>absurd (zbw (zcm R.row hg) (show Typ w' g 122 by rw[e];exact tq')) (by decide)
 ·exact zal (R.own j hj) fun g hg=>o g fun e=>absurd (zbw (zcm (R.own j hj) hg) (show Typ w' g 122 by rw[e];exact tq')) (by decide)
theorem zqo{y x:zaa}(hy:nm y=zcl x n):(lst (put P n y) (n+1)).map nm=(lst P n).map nm++[zcl x n]:=by
 rw[zft,List.map_append,List.map_singleton,hy]
theorem zaf.off{x:zaa}(g:zaf w x)(h:ST w b0 s q t m A c n P)(f:Fr (·=m) w w'):zaf w' x :=
 ⟨⟨g.rd.small,g.rd.range,fun hn=>by
   obtain⟨b,off,e,hc⟩:=g.rd.adr hn
   exact⟨b,off,e,fun j hj=>f.cell (hc j hj) (h.off (hc j hj))⟩⟩,g.nil,g.rng⟩
end
theorem zfo{W:World}{k:Nat}{x:zaa}(h:W.heap[k]?=some (.cells (zab x) 26 (0,0))):∀ j u,x.cells[j]?=some u→W.cell? ((⟨k,0,none⟩:Addr).add j)=some u:=by
 intro j u hu;rw[WideShapes.add_plain,Nat.zero_add,cell_of_row W k j _ _ _ h];show x.cells.toArray[j]?=some u
 rw[List.getElem?_toArray];exact hu
section
variable{ops:Array Oper}{o:Oper}{a:Act}{w:World}{K:Act→World→Prop}{Q:Exit→Act→World→Prop}{E:Prop}
theorem ztd{W0:World}(k0:Keep W0 w)(hgd:o.guard=none)(s x:Operand)(ho:o.op=.call { callee:=.builtin .append,args:=#[s,x],argTypes:=#[28,28] })
  (base:Nat) (v:Value) (n:Nat) (xs:List Value) (hs:a.eval s=v) (hown:w.ownsRow base 26 9 v n xs) (ad:Addr) (news:List Value) (hx:a.eval x=.slice (some ad) 1 1) (hl:news.length=9) (hnews:∀ j u,news[j]?=some u→w.cell? (ad.add j)=some u) (h1:∀ u∈news,u.oneCell'=true)
  (hlim:n≤1048576) (hbase:base≤w.heap.size)
  (h:∀ g cap w',Keep W0 w→w'.ownsRow base 26 9 (.slice (some ⟨g,0,none⟩) (n+1) cap) (n+1) (xs++news)→w.grownBy w' v.ownBlock→(v.ownBlock=some g∨g=w.heap.size)→g<w'.heap.size→K (a.put o.dst (.slice (some ⟨g,0,none⟩) (n+1) cap)) w') :
  if Region.wanted o (yielded ops a.tmps)=true then Oper.wp Tryz.prog o a w K Q else E:=by
 obtain⟨i0,hi0,hz0,hz1,hz2⟩:=info_parts Tryz.tyP13.info;exact step_append_lies (P:=Tryz.prog) w hgd s x 28 ho base 26 i0 _ 9 88 Tryz.underlying28 hi0 hz0 hz1 hz2 rfl (by decide) v n xs hs hown ad 1 1 news hx (by rw[hl]) hnews h1 (by omega) (by unfold maxLen;omega) (by omega) hbase _ rfl fun g cap w'=>h g cap w' k0
end
section
variable{w w':World}{b0:Nat}{s:Int}{q t m:Nat}{A:Option Addr}{c n:Nat}{P:Nat→zaa}{k:Int}
theorem aaz{W9 W1 w4:World}{bx b:Nat}{y:zaa}{X Z:Array Value}(H:ST w b0 s q t m A c n P)(hb0:b0≤w.heap.size)(M:Mid W9 b0 s q t m A c n P k)(F:Fr (·=m) w W9)(hbx:w.heap.size≤bx)(B:W9.heap[bx]?=some (.cells X 26 (0,0)))(hbz:w.heap.size≤b)(Zh:W9.heap[b]?=some (.cells Z 26 (0,0)))
  (kp:Keep W9 W1) (hk:y.k=k) (R:Req W9 w.heap.size y) (ok:zcx y) {g c':Nat} (hr:w4.ownsRow b0 26 9 (.slice (some ⟨g,0,none⟩) (n+1) c') (n+1) (zaq P n++y.cells)) (hg:W1.grownBy w4 (Value.slice A n c).ownBlock) (hl:(Value.slice A n c).ownBlock=some g∨g=W1.heap.size) (lk:LOk ((lst (put P n y) (n+1)).map nm)) :
  ST (w4.setCell ⟨q,0,none⟩ (.slice (some ⟨g,0,none⟩) (n+1) c')) b0 s q t m (some ⟨g,0,none⟩) c' (n+1) (put P n y)∧Fr (FE q t m A c n P) w (w4.setCell ⟨q,0,none⟩ (.slice (some ⟨g,0,none⟩) (n+1) c')) ∧
  (w4.setCell ⟨q,0,none⟩ (.slice (some ⟨g,0,none⟩) (n+1) c')).heap[bx]?=some (.cells X 26 (0,0))∧(w4.setCell ⟨q,0,none⟩ (.slice (some ⟨g,0,none⟩) (n+1) c')).heap[b]?=some (.cells Z 26 (0,0)) ∧
  (∀ i,FE q t m (some ⟨g,0,none⟩) c' (n+1) (put P n y) i→FE q t m A c n P i∨w.heap.size≤i)∧¬(Value.slice (some ⟨g,0,none⟩) (n+1) c').ownBlock=some b:=by
 have ltF:=H.lt;have s1:=F.size;have s2:=kp.size;have s3:=hg.size;have nr:∀ i,w.heap.size≤i→(some i:Option Nat)≠(Value.slice A n c).ownBlock:=fun i hi e=>by
  have:=(ltF i (Or.inr (Or.inr (Or.inr (Or.inl e.symm))))).2;omega
 have nq:∀ i,w.heap.size≤i→i≠q:=fun i hi e=>by
  have:=(ltF q (Or.inl rfl)).2;omega
 have tail:∀ i o,w.heap.size≤i→W9.heap[i]?=some o→(w4.setCell ⟨q,0,none⟩ (.slice (some ⟨g,0,none⟩) (n+1) c')).heap[i]?=some o:=fun i o hi e=>by
  rw[Below.heap_setCell _ _ _ _ (nq i hi),hg.block i (Nat.lt_of_lt_of_le (zbl e) s2) (nr i hi)];exact kp.block e
 refine⟨Mid.fin H M kp hk (zcg R hb0) ok hr hg lk,?_,tail bx _ hbx B,tail b _ hbz Zh,?_,fun e=>?_⟩
 ·refine Fr.set ?_ (by left;exact Or.inl rfl) _
  exact(((F.less fun i e=>Or.inr (Or.inr (Or.inl e))).keep kp).same (Fr.grown hg fun i e=>Or.inl (Or.inr (Or.inr (Or.inr (Or.inl e))))))
 ·rintro i (h1 | h1 | h1 | h1 | ⟨j,hj,h1⟩)
  ·exact Or.inl (Or.inl h1)
  ·exact Or.inl (Or.inr (Or.inl h1))
  ·exact Or.inl (Or.inr (Or.inr (Or.inl h1)))
  ·have e:g=i:=by simpa [Value.ownBlock] using h1
   rcases hl with hl | hl
   ·exact Or.inl (Or.inr (Or.inr (Or.inr (Or.inl (by rw[← e];exact hl)))))
   ·exact Or.inr (by omega)
  ·by_cases e:j=n
   ·rw[e,put_at] at h1
    exact Or.inr (R.lt i h1).1
   ·rw[put_ne _ _ _ e] at h1
    exact Or.inl (Or.inr (Or.inr (Or.inr (Or.inr ⟨j,by omega,h1⟩))))
 ·have e2:g=b:=by simpa [Value.ownBlock] using e
  have h2:=zbl Zh;rcases hl with hl | hl
  ·exact nr b hbz (by rw[hl,e2])
  ·omega
end
section
variable{w w':World}{b0:Nat}{s:Int}{q t m:Nat}{A:Option Addr}{c n:Nat}{P:Nat→zaa}{k:Int}
set_option maxRecDepth 100000 in
set_option maxHeartbeats 16000000 in
theorem zly(h:ST w b0 s q t m A c n P)(x:zaa)(hx:zaf w x)(hm:x.m≤1000)(hn:n≤1000)(hk:x.k∉keys (lst P n))(hs:(n:Int)<s)(hb0:b0≤w.heap.size):
  Calls Tryz.prog 40 #[.pointer (some ⟨q,0,none⟩),x.val] w fun e w'=>∃ B d B2 d2 z A' c',e=.returned (.tuple #[(sbV x B2 d2 n).val,.nilIface])∧zcx (sbV x B2 d2 n)∧Req w' z (sbV x B2 d2 n)∧w.heap.size≤z∧ST w' b0 s q t m A' c' (n+1) (put P n (sbV x B d n))∧(∀ i,FE q t m A' c' (n+1) (put P n (sbV x B d n)) i→(FE q t m A c n P i∨w.heap.size≤i)∧i<z)∧Fr (FE q t m A c n P) w w':=by
 have mixed:Tryz.prog.follows .mixedOrders=true:=by kernel_rfl
 obtain⟨W0,hW0⟩:∃ W0,W0=w.alloc (.cells (zab x) 26):=⟨_,rfl⟩;obtain⟨W,hW⟩:∃ W,W=W0.alloc (.cells (zab zad) 26):=⟨_,rfl⟩;have KW:Hid (Keep w W):=by rw[hW,hW0];exact(Keep.one _ _).alloc _
 obtain⟨bx,hbx⟩:∃ bx,bx=w.heap.size:=⟨_,rfl⟩;obtain⟨b,hb⟩:∃ b,b=w.heap.size+1:=⟨_,rfl⟩;have hbz:W0.heap.size=b:=by rw[hW0,World.size_alloc,hb]
 have Y:Hid (W.heap[b]?=some (.cells (zab zad) 26 (0,0))):=by show _=_;rw[hW,← hbz];exact heap_alloc_new _ _
 have YX:Hid (W.heap[bx]?=some (.cells (zab x) 26 (0,0))):=by show _=_;rw[hW,hW0,hbx];exact(Keep.one _ _).block (heap_alloc_new _ _)
 have x0:=(zah YX.out).e0;have h1:=h.keep KW.out;have c0:=h1.c0;have c1:=h1.c1;have hc1:¬q=m:=h.offT h.tq;have hcx:¬bx=m:=by have:=(h.lt m (Or.inr (Or.inr (Or.inl rfl)))).2;omega
 have lk:Hid (∀ y,nm y=zcl x n→LOk ((lst (put P n y) (n+1)).map nm)):=fun y hy=>by
  have hl:((lst P n).map nm).length=n:=by rw[List.length_map,lst_len]
  have hc:zdx ((lst P n).map nm) s x=0:=by
   unfold zdx;rw[zcq,if_neg hk,hl,if_neg (by omega)]
  have:=zrb (s:=s) (x:=x) h.lk;unfold zek at this;rw[if_pos hc,hl] at this;rw[zqo hy];exact this
 have cA:Hid (∀ W',Keep W W'→Calls Tryz.prog 68 #[.pointer (some ⟨t,0,none⟩),.int .i64 x.k,.int .i64 n] W' fun e w'=>e=.returned .nilIface∧TMI w' (if 0≤s then s else 0) t m (prs P n++[(x.k,.int .i64 n)])∧Fr (·=m) W' w'):=fun W' k=>zth (h1.keep k).tb x.k n (zea hk) (by rw[zgy];split<;>omega)
 have cC:Hid (∀ W',Calls Tryz.prog 67 #[.nilIface] W' fun e w'=>e=.returned (.tuple #[.int .i64 0,.bool false])∧Keep W' w'):=fun W'=>zmv W'
 have hx':=Lib.hid hx;have hm':=Lib.hid hm;have H:=Lib.hid h;have H1:=Lib.hid h1;have hnI:Hid (I64 n):=by show I64 _;unfold I64;omega
 have hn':=Lib.hid hn;have hb0':=Lib.hid hb0;unfold zab at hW hW0;unfold zad at hW;have c0e:=c0;rw[hW,hW0] at c0e;unfold zaa.val;clear h h1 hx hk hm hs
 go_enter Tryz.func40,Tryz.ntmps40
 go_wp2_with fail;clear c0e;rw[← hW0,← hW,← hb];try rw[← hbx]
 replace hW:=Lib.hid hW;replace hW0:=Lib.hid hW0;replace hb:=Lib.hid hb;replace hbx:=Lib.hid hbx;replace hbz:=Lib.hid hbz;have hc1:=Lib.hid hc1;have hcx:=Lib.hid hcx
 go_region_held3 (fun w'=>w'.cell? ⟨q,1,none⟩=some (.pointer (some ⟨t,0,none⟩))∧w'.cell? ⟨bx,0,none⟩=some (.int .i64 x.k))
  (first
   | ((refine(fun (KK:Keep W _)=>⟨KK.cell c1,KK.cell x0⟩) ?_;repeat (with_reducible first | exact Keep.refl W | apply Keep.drew | apply Keep.drewN));done)
   | ((refine(fun (KK:Keep w6 _)=>⟨KK.cell s6.out.1,KK.cell s6.out.2⟩) ?_;repeat (with_reducible first | exact Keep.refl w6 | apply Keep.drew | apply Keep.drewN | exact k7.out));done))
  (first
   | (go_at_call 68;refine(cA.out _ (by repeat (with_reducible first | exact Keep.refl W | apply Keep.drew | apply Keep.drewN))).mono ?_;rintro e w6 ⟨rfl,T6,f6⟩;have F6:Hid (Fr (·=m) W w6):=Fr.after (by repeat (with_reducible first | exact Keep.refl W | apply Keep.drew | apply Keep.drewN)) f6;replace T6:=Lib.hid T6;replace f6:=Lib.hid f6;have s6:Hid (w6.cell? ⟨q,1,none⟩=some (.pointer (some ⟨t,0,none⟩))∧w6.cell? ⟨bx,0,none⟩=some (.int .i64 x.k)):=⟨F6.out.cell c1 hc1.out,F6.out.cell x0 hcx.out⟩)
   | (go_at_call 67;refine(cC.out _).mono ?_;rintro e w7 ⟨rfl,k7⟩;replace k7:=Lib.hid ((by repeat (with_reducible first | exact Keep.refl w6 | apply Keep.drew | apply Keep.drewN):Keep w6 _).trans k7)))
 all_goals
  have M7:Hid (Mid w7 b0 s q t m A c n P x.k):=(Mid.of H1.out F6.out T6.out).keep k7.out;have F7:Hid (Fr (·=m) W w7):=F6.out.keep k7.out
  have X7:Hid (w7.heap[bx]?=some (.cells (zab x) 26 (0,0))):=(F7.out.block bx (zbl YX.out) hcx.out).trans YX.out;clear c0 c1 x0 cA cC F6 T6 f6 s6 k7;obtain⟨x0,x1,x2,x3,x4,x5,x6,x7,x8,xf⟩:=zah X7.out;have cP:=zcr x w7 (hx'.out.off H.out (Fr.after KW.out F7.out)) hm'.out;unfold zaa.at zaa.val at cP;go_wp2_with fail;refine cP.mono ?_;rintro e w8 ⟨B,d,rfl,R8,ok8,_,k8⟩;have X8:=k8.block X7.out;obtain⟨d0,d1,d2,d3,d4,d5,d6,d7,d8,g0⟩:=zah X8;have M8:=M7.out.keep k8;have F8:Fr (·=m) w w8:=(Fr.after KW.out F7.out).keep k8
  have ltF:=H.out.lt;have hbxl:∀ i,FE q t m A c n P i→i≠bx:=fun i hi e=>by have:=(ltF i hi).2;have:=hbx.out;omega
  have B9:Hid ((zjb w8 bx (x.at B d) n).heap[bx]?=some (.cells (zab (sbV x B d n)) 26 (0,0))):=zro _ x n X8;have M9:Hid (Mid (zjb w8 bx (x.at B d) n) b0 s q t m A c n P x.k):=M8.frame fun i hi=>zge _ _ (hbxl i hi)
  have F9:Hid (Fr (·=m) w (zjb w8 bx (x.at B d) n)):=zyh _ _ F8 (by have:=hbx.out;omega)
  have R9:Hid (Req (zjb w8 bx (x.at B d) n) w.heap.size (sbV x B d n)):=by
   refine zcg (base:=w7.heap.size) (zal R8 fun g hg=>zge _ _ ?_) (Nat.le_trans KW.out.size F7.out.size)
   have h1:=(R8.lt g hg).1;have h2:=zbl X7.out;omega
  have Z9:Hid ((zjb w8 bx (x.at B d) n).heap[b]?=some (.cells (zab zad) 26 (0,0))):=by
   have e1:¬b=m:=fun e=>by have:=(ltF m (Or.inr (Or.inr (Or.inl rfl)))).2;have:=hb.out;omega
   have e2:b≠bx:=by have:=hb.out;have:=hbx.out;omega
   exact(zge _ _ e2).trans (k8.block ((F7.out.block b (zbl Y.out) e1).trans Y.out))
  have ok9:Hid (zcx (sbV x B d n)):=aec ok8 hnI.out;clear x0 x1 x2 x3 x4 x5 x6 x7 x8 xf cP R8 ok8 k8 X8 M8 F8 ltF hbxl M7 F7 X7;go_wp2_with fail;clear d0 d1 d2 d3 d4 d5 d6 d7 d8 g0;obtain⟨W9,hW9⟩:∃ W9,W9=zjb w8 bx (x.at B d) n:=⟨_,rfl⟩;rw[← hW9] at B9 M9 F9 R9 Z9;unfold zjb put9 zaa.at at hW9;rw[← hW9];replace hW9:=Lib.hid hW9;obtain⟨y,hy⟩:∃ y,y=sbV x B d n:=⟨_,rfl⟩;have hyc:#[y.k,0]=#[x.k,0]:=by rw[hy];rfl
  rw[← hy] at B9 R9 ok9;obtain⟨x0,x1,x2,x3,x4,x5,x6,x7,x8,xf⟩:=zah B9.out;have c0:W9.cell? ⟨q,0,none⟩=some (.slice A n c):=by rw[cell_of_row W9 q _ _ _ _ M9.out.hq];rfl
  have fz:W9.frozen? ⟨q,0,none⟩=false:=frozen_of_row W9 _ _ _ _ M9.out.hq;have ltq:q<W9.heap.size:=zbl M9.out.hq;have hAq:Hid (some q≠(Value.slice A n c).ownBlock):=fun e=>absurd (zbw (zcm M9.out.rp.row e.symm) ⟨_,_,M9.out.hq⟩) (by decide)
  have hbl:Hid (b0≤W9.heap.size):=by show _≤_;have:=F9.out.size;have:=hb0'.out;omega
  replace hy:=Lib.hid hy;replace hyc:=Lib.hid hyc;clear xf;have hyn:Hid (nm y=zcl x n):=by show _=_;rw[hy.out];rfl
  have hyk:Hid (y.k=x.k):=by show _=_;rw[hy.out];rfl
  go_region_law (first
   | (refine ztd (W0:=W9) (by repeat (first | exact Keep.refl W9 | apply Keep.alloc | apply Keep.drew)) rfl (.tmp 45) (.tmp 47) rfl b0 (.slice A n c) n (zaq P n) (by simp[Act.eval]) (own_keep M9.out.rp.row (by repeat (first | exact Keep.refl _ | apply Keep.alloc | apply Keep.drew))) ⟨W9.heap.size,0,none⟩ y.cells (by simp[Act.eval]) rfl (zfo (heap_alloc_new _ _)) (cells_one _) (by have:=hn'.out;omega) (by have:=hbl.out;first | (rw[World.size_alloc];omega) | (simp;omega)) ?_
      intro g4 c4 w4 kp4 hr4 hg4 hl4 hz4;have d0:w4.cell? ⟨q,0,none⟩=some (.slice A n c):=World.grownBy.cell hg4 (kp4.cell c0) hAq.out;have d1:w4.frozen? ⟨q,0,none⟩=false:=by
       rw[hg4.frozen_far ⟨q,0,none⟩ (Nat.lt_of_lt_of_le ltq kp4.size) hAq.out,Below.frozen kp4 (p:=⟨q,0,none⟩) ltq];exact fz
      have E4:=Lib.hid (aaz H.out hb0'.out M9.out F9.out (by have:=hbx.out;omega) B9.out (by have:=hb.out;omega) Z9.out kp4 hyk.out R9.out ok9.out hr4 hg4 hl4 (lk.out y hyn.out))
      clear kp4;replace hr4:=Lib.hid hr4;replace hg4:=Lib.hid hg4;replace hl4:=Lib.hid hl4
      replace hz4:=Lib.hid hz4))
  all_goals
   clear x0 x1 x2 x3 x4 x5 x6 x7 x8 c0 fz d0 d1;obtain⟨S11,F11,B11,Z11,E11,N11⟩:=E4.out;obtain⟨W11,hW11⟩:∃ W11,W11=w4.setCell ⟨q,0,none⟩ (.slice (some ⟨g4,0,none⟩) (n+1) c4):=⟨_,rfl⟩;rw[← hW11] at S11 F11 B11 Z11 ⊢;obtain⟨x0,x1,x2,x3,x4,x5,x6,x7,x8,xf⟩:=zah B11;have hym:y.m≤1000:=by have:=hm'.out;rw[hy.out];exact this
   have pi:zaf W11 y:=by
    have h1:=S11.rp.own n (by omega)
    have h2:=S11.rp.ok n (by omega)
    rw[put_at] at h1 h2;exact h1.is h2
   have cP:=Lib.hid (zcr y W11 pi hym);unfold zaa.at zaa.val at cP;replace hW11:=Lib.hid hW11;replace S11:=Lib.hid S11;replace F11:=Lib.hid F11;replace B11:=Lib.hid B11;replace Z11:=Lib.hid Z11;replace E11:=Lib.hid E11;replace N11:=Lib.hid N11;clear pi hym E4;go_wp2_with fail;refine cP.out.mono ?_;rintro e w12 ⟨B2,d2,rfl,R12,ok12,_,k12⟩;have Z12:=k12.block Z11.out;obtain⟨d0,d1,d2',d3,d4,d5,d6,d7,d8,g0⟩:=zah Z12;unfold zad at d0 d1 d2' d3 d4 d5 d6 d7 d8;have hbw:w.heap.size≤b:=by have:=hb.out;omega
   have B5:Hid ((put9 w12 b (y.at B2 d2)).heap[b]?=some (.cells (zab (y.at B2 d2)) 26 (0,0))):=zbs _ zad Z12;have S5:Hid (ST (put9 w12 b (y.at B2 d2)) b0 s q t m (some ⟨g4,0,none⟩) c4 (n+1) (put P n y)):=(S11.out.keep k12).frame fun i hi=>zce _ fun e=>(S11.out.keep k12).notPod ⟨_,_,Z12⟩ N11.out (by rw[← e];exact hi)
   have F5:Hid (Fr (FE q t m A c n P) w (put9 w12 b (y.at B2 d2))):=zma _ (F11.out.keep k12) hbw;have R5:Hid (Req (put9 w12 b (y.at B2 d2)) W11.heap.size (y.at B2 d2)):=zal R12 fun g hg=>zce _ (by have:=(R12.lt g hg).1;have:=zbl Z11.out;omega)
   have L5:Hid (∀ i,FE q t m (some ⟨g4,0,none⟩) c4 (n+1) (put P n y) i→(FE q t m A c n P i∨w.heap.size≤i)∧i<W11.heap.size):=fun i hi=>⟨E11.out i hi,(S11.out.lt i hi).2⟩
   have sz5:Hid (w.heap.size≤W11.heap.size):=F11.out.size;have ok12:=Lib.hid ok12;replace hbw:=Lib.hid hbw;clear x0 x1 x2 x3 x4 x5 x6 x7 x8 xf R12 k12 Z12 cP;go_wp2;obtain⟨e0,e1,e2,e3,e4,e5,e6,e7,e8,_⟩:=zah B5.out;have E:=And.intro ok12.out (And.intro R5.out (And.intro sz5.out (And.intro S5.out (And.intro L5.out F5.out))));unfold put9 zaa.at at *;refine bodyPost_ret (v:=.tuple #[.agg #[.int .i64 y.k,.int .i64 y.p,.bool y.f,.int .i64 y.g,.slice B2 y.m d2,.int .i64 y.a,.int .i64 y.h,.int .i64 y.d,.int .i64 y.t],.nilIface]) (by simp[results,Tryz.results40,go_sem,e0,e1,e2,e3,e4,e5,e6,e7,e8]) rfl ?_
   have hy2:=hy.out;subst hy2;exact⟨B,d,B2,d2,W11.heap.size,some ⟨g4,0,none⟩,c4,rfl,E⟩
end
end Go.Proofs.YtihjgcibpfajkaaGreatDoor.T13
