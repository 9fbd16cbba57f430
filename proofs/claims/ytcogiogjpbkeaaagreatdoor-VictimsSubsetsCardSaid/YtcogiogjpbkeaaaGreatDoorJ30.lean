/-
  The store's lists: copies of the pods that a function keeps. Conditions: at most 1000 pods, each with at most 1000 amounts.
  The store: All, On, With, Count; All of the nil store. Conditions: at most 1000 pods, each with at most 1000 amounts.
  All of the nil store. No condition.
-/
import Derived.Test.YtcogiogjpbkeaaaGreatDoorJ0
import Derived.Test.YtcogiogjpbkeaaaGreatDoorJ29
namespace Go.Proofs.YtcogiogjpbkeaaaGreatDoor.T13
open Go.RowKit Go.Sort Go.Lib Go.Shelf V12
structure Kf(w:World)(kf:Nat)(caps:Array Value)(n:Nat)(P:Nat->zaa)(f:zaa->Bool):Prop where
 en:∀ args w,(callFunc kf args).run Tryz.prog w=.ok (.enter kf args) w
 k:∀ W':World,(∀ k,k<w.heap.size->W'.heap[k]?=w.heap[k]?)->∀ x∈lst P n,Calls Tryz.prog kf (#[x.val]++caps) W' fun e W''=>e=.returned (.bool (f x))/\Keep W' W''
section
variable{F:Fence}{u:Nat}{ops:Array Oper}{o:Oper}{a:Act}{w:World}{K:Act->World->Prop}{Q:Exit->Act->World->Prop}{E:Prop}
theorem zha(hgd:o.guard=none)(s x:Operand)(ho:o.op=.call { callee:=.builtin .append,args:=#[s,x],argTypes:=#[28,28] })
  (base:Nat) (v:Value) (n:Nat) (xs:List Value) (hs:a.eval s=v) (hown:w.ownsRow base 26 9 v n xs) (ad:Addr) (news:List Value) (hx:a.eval x=.slice (some ad) 1 1) (hl:news.length=9) (hnews:∀ j u,news[j]?=some u->w.cell? (ad.add j)=some u) (h1:∀ u∈news,u.oneCell'=true)
  (hlim:n<=1048576) (hbase:base<=w.heap.size)
  (h:∀ g cap w',w'.ownsRow base 26 9 (.slice (some ⟨g,0,none⟩) (n+1) cap) (n+1) (xs++news)->w.grownBy w' v.ownBlock->K (a.put o.dst (.slice (some ⟨g,0,none⟩) (n+1) cap)) w') :
  if Region.wanted o (yielded ops a.tmps)=true then Oper.wpIn F u Tryz.prog o a w K Q else E:=by
 have hw:Region.wanted o (yielded ops a.tmps)=true:=by simp[Region.wanted,hgd]
 rw[if_pos hw];obtain⟨i0,hi0,hz0,hz1,hz2⟩:=info_parts Tryz.tyP13.info;obtain⟨g,cap,w',hrun,r1,r2,_,_⟩:=run_append_lies (P:=Tryz.prog) (w:=w) 28 o.type base 26 i0 _ 9 88 Tryz.underlying28 hi0 hz0 hz1 hz2 rfl (by decide) v n xs hown ad 1 1 news (by rw[hl]) hnews h1 (by omega) (by unfold maxLen;omega) (by omega) hbase _ rfl
 unfold Oper.wpIn;refine⟨by simp[Oper.about,ho,resolve,Target.leads,Sem.run_pure],?_⟩
 rw[Oper.semAt_plain F _ _ (by rw[ho];intro c hc';cases hc')]
 simp[execOp,ho,resolve,invoke,builtin,hs,hx,hrun,Result.andThen]
 exact h _ _ _ r1 r2
end
theorem aax{W W7 w8:World}{bl N0 n g c:Nat}{v:Value}{Q:Nat->zaa}{y:zaa}(hv:Boxed W bl 28 v)(hR:zas W N0 v n Q)(k7:Keep W W7)(hy:Req W7 N0 y)(oky:zcy y)(hr:w8.ownsRow N0 26 9 (.slice (some ⟨g,0,none⟩) (n+1) c) (n+1) (zaj Q n++y.cells))(hg:W7.grownBy w8 v.ownBlock):
  Boxed (w8.setCell ⟨bl,0,none⟩ (.slice (some ⟨g,0,none⟩) (n+1) c)) bl 28 (.slice (some ⟨g,0,none⟩) (n+1) c)/\zas (w8.setCell ⟨bl,0,none⟩ (.slice (some ⟨g,0,none⟩) (n+1) c)) N0 (.slice (some ⟨g,0,none⟩) (n+1) c) (n+1) (put Q n y)/\Fr (fun i=>i=bl\/v.ownBlock=some i) W (w8.setCell ⟨bl,0,none⟩ (.slice (some ⟨g,0,none⟩) (n+1) c)):=by
 have R7:=hR.keep k7;have R8:=R7.more hy oky hr hg;have b7:Boxed W7 bl 28 v:=k7.block hv;have b8:Boxed w8 bl 28 v:=Boxed.kept b7 hg (b7.not_row (by decide) R7.row)
 have o:∀ i,i≠bl->(w8.setCell ⟨bl,0,none⟩ (.slice (some ⟨g,0,none⟩) (n+1) c)).heap[i]?=w8.heap[i]?:=fun i hi=>Below.heap_setCell _ _ _ _ hi
 have tb:Typ w8 bl 28:=⟨_,_,b8⟩;refine⟨b8.set _,⟨zao R8.row fun i hi=>o i fun e=>?_,fun j hj=>zao (R8.own j hj) fun i hi=>o i fun e=>?_,R8.ok⟩,?_⟩
 ·have h1:=zcn R8.row hi
  rw[e] at h1;exact absurd (zck h1 tb) (by decide)
 ·have h1:=zcn (R8.own j hj) hi
  rw[e] at h1;exact absurd (zck h1 tb) (by decide)
 ·exact((Fr.of k7).same (Fr.grown hg fun i e=>Or.inl (Or.inr e))).set (by left;exact Or.inl rfl) _
theorem zmw{W w6:World}{bl N0 n:Nat}{v:Value}{Q:Nat->zaa}{b6:Nat}(hv:Boxed W bl 28 v)(hR:zas W N0 v n Q)(hN:N0<=W.heap.size)(k6:Keep W w6)(y:zaa)(hy:Req w6 b6 y)(oky:zcy y)(hb:N0<=b6):
  (w6.alloc (.cells (zac y) 26)).ownsRow N0 26 9 v n (zaj Q n)/\N0<=(w6.alloc (.cells (zac y) 26)).heap.size /\
  ∀ g c w8,w8.ownsRow N0 26 9 (.slice (some ⟨g,0,none⟩) (n+1) c) (n+1) (zaj Q n++y.cells)->(w6.alloc (.cells (zac y) 26)).grownBy w8 v.ownBlock->w8.cell? ⟨bl,0,none⟩=some v/\w8.frozen? ⟨bl,0,none⟩=false /\
   (Boxed (w8.setCell ⟨bl,0,none⟩ (.slice (some ⟨g,0,none⟩) (n+1) c)) bl 28 (.slice (some ⟨g,0,none⟩) (n+1) c)/\zas (w8.setCell ⟨bl,0,none⟩ (.slice (some ⟨g,0,none⟩) (n+1) c)) N0 (.slice (some ⟨g,0,none⟩) (n+1) c) (n+1) (put Q n y)/\Fr (fun i=>i=bl\/v.ownBlock=some i) W (w8.setCell ⟨bl,0,none⟩ (.slice (some ⟨g,0,none⟩) (n+1) c))):=by
 have k7:=k6.trans (Keep.one w6 (.cells (zac y) 26));have R7:=hR.keep k7;have b7:Boxed (w6.alloc (.cells (zac y) 26)) bl 28 v:=k7.block hv;refine⟨R7.row,Nat.le_trans hN k7.size,fun g c w8 hr hg=>?_⟩
 have b8:Boxed w8 bl 28 v:=Boxed.kept b7 hg (b7.not_row (by decide) R7.row)
 exact⟨b8.cell,b8.frozen,aax hv hR k7 (zal (own_base' hy hb) (Keep.one _ _)) oky hr hg⟩
theorem zas.base{w:World}{b b' n:Nat}{v:Value}{Q:Nat->zaa}(h:zas w b v n Q)(hb:b'<=b):zas w b' v n Q:=⟨zbx h.row hb,fun j hj=>zbx (h.own j hj) hb,h.ok⟩
theorem zyi{w W w9:World}{N0 bl n:Nat}{P:Nat->zaa}{pre:List (PD P n)}{x:PD P n}{v v':Value}{Q:Nat->zaa}{B:Option Addr}{d:Nat}(hv:Boxed W bl 28 v)(hR:zas W N0 v pre.length Q)(he:(lst Q pre.length).map nm=(pre.map (·.1)).map nm)(hB:Keep w W)(hN:N0<=W.heap.size)(hbl:w.heap.size<=bl)(hwN:w.heap.size<=N0)
  (h9:Boxed w9 bl 28 v'/\zas w9 N0 v' (pre.length+1) (put Q pre.length (x.1.at B d))/\Fr (fun i=>i=bl\/v.ownBlock=some i) W w9) :
  KeepsFrom N0 W w9/\(But bl N0 W w9/\W.heap.size<=w9.heap.size)/\(∃ v Q,Boxed w9 bl 28 v/\zas w9 N0 v (pre++[x]).length Q/\(lst Q (pre++[x]).length).map nm=((pre++[x]).map (·.1)).map nm)/\Keep w w9/\N0<=w9.heap.size:=by
 obtain⟨b9,R9,f9⟩:=h9;have own:∀ i,v.ownBlock=some i->N0<=i:=fun i e=>(hR.row.lt i e).1
 refine⟨⟨f9.size,fun k o hk h0 ho=>(f9.block k (zcl h0) ?_).trans h0⟩,⟨fun k hk hne=>f9.block k (Nat.lt_of_lt_of_le hk hN) ?_,f9.size⟩,⟨v',put Q pre.length (x.1.at B d),b9,?_,?_⟩,Fr.low hB f9 ?_,Nat.le_trans hN f9.size⟩
 ·rintro(e | e)
  ·rw[e] at h0
   rw[show W.heap[bl]?=_ from hv] at h0
   cases h0
   cases ho
  ·obtain⟨cur,e2⟩:=zfp hR.row e
   rw[e2] at h0;cases h0
   cases ho
 ·rintro(e | e)
  ·exact hne e
  ·have:=own k e
   omega
 ·rw[List.length_append];exact R9
 ·rw[List.length_append,List.length_singleton,zib,List.map_append,he,List.map_append,List.map_append]
  rfl
 ·rintro i (e | e)
  ·omega
  ·have:=own i e
   omega
section
variable{w w':World}{b0:Nat}{s:Int}{q t m:Nat}{A:Option Addr}{c n:Nat}{P:Nat->zaa}
theorem afw(h:ST w b0 s q t m A c n P)(hn:n<=1000){kf:Nat}{caps:Array Value}{f:zaa->Bool}(K:Kf w kf caps n P f){W0:World}(k0:Keep w W0){bl b1 b2:Nat}(hbl:w.heap.size<=bl)(h1:b1≠bl)(h2:b2≠bl)(c1:W0.cell? ⟨b1,0,none⟩=some (.pointer (some ⟨q,0,none⟩)))(c2:W0.cell? ⟨b2,0,none⟩=some (.func (.func kf) #[] caps)):
  ztp W0 bl W0.heap.size b1 b2 q kf caps A c n P f where
 b1:=⟨c1,zbl c1,h1⟩
 b2:=⟨c2,zbl c2,h2⟩
 q:=⟨(h.keep k0).c0,zcl (h.keep k0).hq,by have:=zcl h.hq;omega⟩
 r:=fun j hj=>by
  obtain⟨g,e,X,_,ho⟩:=h.at hj;have:=(h.lt g (Or.inr (Or.inr (Or.inr (Or.inl ho))))).2;have:=k0.size;exact⟨g,e,X.keep k0,by omega,by omega⟩
 k:=fun W' hB hs x hx=>K.k W' (fun i hi=>(hB i (Nat.lt_of_lt_of_le hi k0.size) (by omega)).trans (Below.block k0 i hi)) x hx
 n:=hn
 en:=K.en
attribute [local go_sem] Oper.semAt_some
set_option maxRecDepth 100000 in
set_option maxHeartbeats 8000000 in
theorem list_fn(h:ST w b0 s q t m A c n P)(hn:n<=1000)(hm:∀ j,j<n->(P j).m<=1000){kf:Nat}{caps:Array Value}{f:zaa->Bool}(K:Kf w kf caps n P f):
  Calls Tryz.prog 110 #[.pointer (some ⟨q,0,none⟩),.func (.func kf) #[] caps] w fun e w'=>∃ v S,e=.returned v/\zas w' w.heap.size v ((lst P n).filter f).length S/\(lst S ((lst P n).filter f).length).map nm=((lst P n).filter f).map nm/\Keep w w':=by
 have mixed:Tryz.prog.follows .mixedOrders=true:=by kernel_rfl
 refine(callsIn_wide (n:=6)).1 ?_;have h1:1<=6:=by omega
 obtain⟨W1,hW1⟩:=Zn (w.alloc (.cells #[.slice none 0 0] 28));obtain⟨W0,hW0⟩:=Zn ((W1.alloc (.cells #[.pointer (some ⟨q,0,none⟩)] 91)).alloc (.cells #[.func (.func kf) #[] caps] 73));have sz1:W1.heap.size=w.heap.size+1:=by rw[hW1,World.size_alloc]
 have sz0:W0.heap.size=w.heap.size+3:=by rw[hW0,World.size_alloc,World.size_alloc,sz1]
 have K0:Hid (Keep w W0):=by rw[hW0,hW1];exact(((Keep.one _ _).alloc _).alloc _:Keep w _)
 have bO:Hid (Boxed W0 w.heap.size 28 (.slice none 0 0)):=by rw[hW0,hW1];exact((Boxed.new w _ _).alloc _).alloc _
 have bA:Boxed W0 (w.heap.size+1) 91 (.pointer (some ⟨q,0,none⟩)):=by rw[hW0,<- sz1];exact(Boxed.new W1 _ _).alloc _
 have bB:Boxed W0 (w.heap.size+1+1) 73 (.func (.func kf) #[] caps):=by
  rw[hW0,<- sz1,<- World.size_alloc W1 (.cells #[.pointer (some ⟨q,0,none⟩)] 91)];exact Boxed.new _ _ _
 have E:=Zq (afw h hn K K0.out (bl:=w.heap.size) (b1:=w.heap.size+1) (b2:=w.heap.size+1+1) (Nat.le_refl _) (by omega) (by omega) bA.cell bB.cell)
 have hE:=Zq (zlv (some ⟨q,0,none⟩) (.func (.func kf) #[] caps) W1 ⟨_,_,rfl⟩);rw[sz1] at hE;have hP:Hid (∀ x∈lst P n,zah w x/\x.m<=1000):=fun x hx=>by
  obtain⟨j,hj,rfl⟩:=lst_mem.1 hx;exact⟨h.pod hj,hm j hj⟩
 clear h hm K bA bB;have hw1:=Zq hW1;have hw0:=Zq hW0;clear hW0;refine callsIn_of_wp_marks Tryz.func110 rfl trivial ?_ rfl;simp only[Tryz.ntmps110,List.size_toArray,List.length_cons,List.length_nil,Nat.reduceAdd,Nat.reduceSub,Array.replicate_succ,Array.replicate_zero,List.push_toArray,List.append_toArray,List.nil_append,List.cons_append]
 gi_wp2_with fail
 refine⟨trivial,?_⟩;rw[<- hW1];clear hW1;refine(callsIn_wide.2 hE.out).mono ?_;rintro e w' ⟨rfl,rfl⟩;rw[<- hw0.out]
 gi_wp2
 have hn':=Zq hn;have E2:=E.out;have hN0:Hid (W0.heap.size=w.heap.size+3):=sz0;replace hw1:=Zq hw1;clear hw0;refine wpIn_rangeFunc_ownH (α:=PD P n) rfl h1 (gf:=150) (lb:=#[.pointer (some ⟨w.heap.size+1,0,none⟩),.pointer (some ⟨w.heap.size+1+1,0,none⟩)]) rfl trivial (enters_of Tryz.func150 (by kernel_rfl) rfl)
  (zuf 5 (by omega) E2) (fun h k=>⟨h.1.trans k.1,Nat.le_trans h.2 k.2⟩) (fun W l o o' hl _ _ _=>⟨fun k hk _=>World.putObj_heap_other (by omega),by simp⟩) (Below.refl _ _) (fun _=>rfl)
  (fun pre W=>(∃ v Q,Boxed W w.heap.size 28 v/\zas W W0.heap.size v pre.length Q/\(lst Q pre.length).map nm=(pre.map (·.1)).map nm)/\Keep w W/\W0.heap.size<=W.heap.size)
  (fun _ _ _=>False)
  (fun s X Y row ⟨⟨v,Q,hv,hR,he⟩,hB,hN⟩ hg hr=>⟨⟨v,Q,hv.kept hg (fun e'=>by obtain⟨o,ho,hc⟩:=(hr _ e'.symm).2;rw[show X.heap[_]?=_ from hv] at ho;cases ho;cases hc),hR.own' hg (fun r e=>(hr r e).2),he⟩,Below.grown hB hg hB.size (fun k e=>Nat.le_trans K0.out.size (hr k e).1),Nat.le_trans hN hg.size⟩)
  (fun _ _ _ _ _ hs _ _=>hs)
  ⟨⟨_,fun _=>zaf,bO.out,zas.nil _ _ _,rfl⟩,K0.out,Nat.le_refl _⟩
  (fun x a' W=>∃ Bx,W0.heap.size<=Bx/\W.heap[Bx]?=some (.cells (zac x.1) 26 (0,0))/\a'={ tmps:=#[.pointer (some ⟨q,0,none⟩),.func (.func kf) #[] caps,undef,undef,.slice none 0 0,.pointer (some ⟨w.heap.size,0,none⟩),.pointer (some ⟨Bx,0,none⟩),.pointer (some ⟨q,0,none⟩),.func (.func kf) #[] caps,.func (.func 150) #[] #[.pointer (some ⟨w.heap.size+1,0,none⟩),.pointer (some ⟨w.heap.size+1+1,0,none⟩)],x.1.val,undef,undef,undef,undef,undef,undef],defers:=[] })
  (fun x a' _ X Y row ⟨Bx,g1,g2,g3⟩ hg hr=>⟨Bx,g1,(hg.block Bx (zcl g2) (fun e=>by obtain⟨o,ho,hc⟩:=(hr _ e.symm).2;rw[g2] at ho;cases ho;cases hc)).trans g2,g3⟩)
  ?assign ?body ?done ?stop
 case assign =>
  rintro l pre x W K ⟨⟨v,Q,hv,hR,he⟩,hB,hN⟩ hK;have kk:=Keep.one W (.cells (zac x.1) 26);unfold zaa.val
  gi_wp2
  exact hK _ _ ((KeepsOthers.alloc _ _).from _) ⟨fun k hk _=>Below.block kk k (Nat.lt_of_lt_of_le hk hN),kk.size⟩ ⟨⟨v,Q,hv.alloc _,hR.keep kk,he⟩,hB.trans kk,Nat.le_trans hN kk.size⟩ ⟨W.heap.size,hN,heap_alloc_new _ _,rfl⟩
 case body =>
  rintro l pre x a' W hl ⟨r,hr⟩ ⟨⟨v,Q,hv,hR,he⟩,hB,hN⟩ ⟨Bx,hBx,bX,rfl⟩ hlt;have hxm:=hP.out x.1 x.2;have fin:Hid (∀ (B:Option Addr) (d:Nat) (v':Value) (w9:World),_->_):=fun B d v' w9=>zyi (B:=B) (d:=d) (x:=x) (v':=v') (w9:=w9) hv hR he hB hN (Nat.le_refl _) K0.out.size
  gi_wp2
  refine wpIn_region_any (by assumption) ?_
  try (change wpAnyIn _ _ _ _ _ _ _ _ _ (World.drew _))
  obtain⟨Wd,hWd⟩:=Zn (W.drew);rw[<- hWd];have kd:Hid (Keep W Wd):=by rw[hWd];exact(Keep.refl W).drew
  have hvd:Boxed Wd w.heap.size 28 v:=kd.out.block hv;have cl:=hvd.cell;have cP:=zdt x.1 Wd ((hxm.1.keep hB).keep kd.out) hxm.2;unfold zaa.at zaa.val at cP;replace cP:=Zq cP;obtain⟨x0,x1,x2,x3,x4,x5,x6,x7,x8,_⟩:=zae (kd.out.block bX);replace hWd:=Zq hWd;replace hv:=Zq hv;replace hR:=Zq hR;have hNW:=Zq hN;replace hB:=Zq hB;clear hvd hxm;refine wpAnyIn_ready (rs:=[0,1]) (by kernel_rfl) (by simp) ?_
  refine AllReadyIn.cons rfl (fun K hK=>?_) (AllReadyIn.cons rfl (fun K hK=>?_) AllReadyIn.nil)
  ·skip
   rw[if_pos (by rfl)]
   go_simp
   refine hK _ _ ?_;clear hK K;refine wpAnyIn_ready (rs:=[1]) (by kernel_rfl) (by simp) ?_
   refine AllReadyIn.cons rfl (fun K hK=>?_) AllReadyIn.nil
   rw[if_pos (by rfl)]
   go_simp
   refine hK _ _ ?_;clear hK K;refine wpAnyIn_ready (rs:=[2]) (by kernel_rfl) (by simp) ?_
   refine AllReadyIn.cons rfl (fun K hK=>?_) AllReadyIn.nil
   rw[if_pos (by rfl)]
   go_simp
   refine⟨trivial,?_⟩;refine(CallsIn.inRound l (callsIn_wide.2 cP.out)).mono ?_;rintro e w6 ⟨B,d,rfl,R6,ok6,_,k6⟩;have cl6:=k6.cell cl;have cl7:=(Keep.one w6 (.cells #[.int .i64 x.1.k,.int .i64 x.1.p,.bool x.1.f,.int .i64 x.1.g,.slice B x.1.m d,.int .i64 x.1.a,.int .i64 x.1.h,.int .i64 x.1.d,.int .i64 x.1.t] 26)).cell cl6;have A7:=Zq (zmw hv.out hR.out hNW.out (kd.out.trans k6) (x.1.at B d) R6 ok6 (Nat.le_trans hNW.out kd.out.size));clear R6 ok6 k6 x0 x1 x2 x3 x4 x5 x6 x7 x8
   gi_wp2
   refine wpAnyIn_ready (rs:=[3]) (by kernel_rfl) (by simp) ?_
   refine AllReadyIn.cons rfl (fun K hK=>?_) AllReadyIn.nil
   rw[if_pos (by rfl)]
   go_simp
   refine hK _ _ ?_;clear hK K;refine wpAnyIn_ready (rs:=[4]) (by kernel_rfl) (by simp) ?_
   refine AllReadyIn.cons rfl (fun K hK=>?_) AllReadyIn.nil
   refine zha rfl (.tmp 11) (.tmp 14) rfl W0.heap.size v pre.length (zaj Q pre.length) (by simp[Act.eval]) A7.out.1 ⟨w6.heap.size,0,none⟩ (x.1.at B d).cells (by simp[Act.eval]) rfl (zhq (heap_alloc_new _ _)) (cells_one _) (by have:=hlt;have:=hn'.out;omega) A7.out.2.1 ?_
   intro g8 c8 w8 hr8 hg8;obtain⟨d0,d1,E8⟩:=A7.out.2.2 g8 c8 w8 hr8 hg8;replace E8:=Zq E8;clear hr8 hg8 cl cl6 cl7;refine hK _ _ ?_;clear hK K;refine wpAnyIn_ready (rs:=[5]) (by kernel_rfl) (by simp) ?_
   refine AllReadyIn.cons rfl (fun K hK=>?_) AllReadyIn.nil
   rw[if_pos (by rfl)]
   go_simp
   refine hK _ _ ?_;clear hK K;refine wpAnyIn_done (by kernel_rfl) ?_ _
   gi_wp2
   exact fin.out B d _ _ E8.out
  ·skip
   rw[if_pos (by rfl)]
   go_simp
   refine hK _ _ ?_;clear hK K;refine wpAnyIn_ready (rs:=[0,2]) (by kernel_rfl) (by simp) ?_
   refine AllReadyIn.cons rfl (fun K hK=>?_) (AllReadyIn.cons rfl (fun K hK=>?_) AllReadyIn.nil)
   ·skip
    rw[if_pos (by rfl)]
    go_simp
    refine hK _ _ ?_;clear hK K;refine wpAnyIn_ready (rs:=[2]) (by kernel_rfl) (by simp) ?_
    refine AllReadyIn.cons rfl (fun K hK=>?_) AllReadyIn.nil
    rw[if_pos (by rfl)]
    go_simp
    refine⟨trivial,?_⟩;refine(CallsIn.inRound l (callsIn_wide.2 cP.out)).mono ?_;rintro e w6 ⟨B,d,rfl,R6,ok6,_,k6⟩;have cl6:=k6.cell cl;have cl7:=(Keep.one w6 (.cells #[.int .i64 x.1.k,.int .i64 x.1.p,.bool x.1.f,.int .i64 x.1.g,.slice B x.1.m d,.int .i64 x.1.a,.int .i64 x.1.h,.int .i64 x.1.d,.int .i64 x.1.t] 26)).cell cl6;have A7:=Zq (zmw hv.out hR.out hNW.out (kd.out.trans k6) (x.1.at B d) R6 ok6 (Nat.le_trans hNW.out kd.out.size));clear R6 ok6 k6 x0 x1 x2 x3 x4 x5 x6 x7 x8
    gi_wp2
    refine wpAnyIn_ready (rs:=[3]) (by kernel_rfl) (by simp) ?_
    refine AllReadyIn.cons rfl (fun K hK=>?_) AllReadyIn.nil
    rw[if_pos (by rfl)]
    go_simp
    refine hK _ _ ?_;clear hK K;refine wpAnyIn_ready (rs:=[4]) (by kernel_rfl) (by simp) ?_
    refine AllReadyIn.cons rfl (fun K hK=>?_) AllReadyIn.nil
    refine zha rfl (.tmp 11) (.tmp 14) rfl W0.heap.size v pre.length (zaj Q pre.length) (by simp[Act.eval]) A7.out.1 ⟨w6.heap.size,0,none⟩ (x.1.at B d).cells (by simp[Act.eval]) rfl (zhq (heap_alloc_new _ _)) (cells_one _) (by have:=hlt;have:=hn'.out;omega) A7.out.2.1 ?_
    intro g8 c8 w8 hr8 hg8;obtain⟨d0,d1,E8⟩:=A7.out.2.2 g8 c8 w8 hr8 hg8;replace E8:=Zq E8;clear hr8 hg8 cl cl6 cl7;refine hK _ _ ?_;clear hK K;refine wpAnyIn_ready (rs:=[5]) (by kernel_rfl) (by simp) ?_
    refine AllReadyIn.cons rfl (fun K hK=>?_) AllReadyIn.nil
    rw[if_pos (by rfl)]
    go_simp
    refine hK _ _ ?_;clear hK K;refine wpAnyIn_done (by kernel_rfl) ?_ _
    gi_wp2
    exact fin.out B d _ _ E8.out
   ·skip
    rw[if_pos (by rfl)]
    go_simp
    refine⟨trivial,?_⟩;refine(CallsIn.inRound l (callsIn_wide.2 cP.out)).mono ?_;rintro e w6 ⟨B,d,rfl,R6,ok6,_,k6⟩;have cl6:=k6.cell cl;have cl7:=(Keep.one w6 (.cells #[.int .i64 x.1.k,.int .i64 x.1.p,.bool x.1.f,.int .i64 x.1.g,.slice B x.1.m d,.int .i64 x.1.a,.int .i64 x.1.h,.int .i64 x.1.d,.int .i64 x.1.t] 26)).cell cl6;have A7:=Zq (zmw hv.out hR.out hNW.out (kd.out.trans k6) (x.1.at B d) R6 ok6 (Nat.le_trans hNW.out kd.out.size));clear R6 ok6 k6 x0 x1 x2 x3 x4 x5 x6 x7 x8
    gi_wp2
    refine wpAnyIn_ready (rs:=[0,3]) (by kernel_rfl) (by simp) ?_
    refine AllReadyIn.cons rfl (fun K hK=>?_) (AllReadyIn.cons rfl (fun K hK=>?_) AllReadyIn.nil)
    ·skip
     rw[if_pos (by rfl)]
     go_simp
     refine hK _ _ ?_;clear hK K;refine wpAnyIn_ready (rs:=[3]) (by kernel_rfl) (by simp) ?_
     refine AllReadyIn.cons rfl (fun K hK=>?_) AllReadyIn.nil
     rw[if_pos (by rfl)]
     go_simp
     refine hK _ _ ?_;clear hK K;refine wpAnyIn_ready (rs:=[4]) (by kernel_rfl) (by simp) ?_
     refine AllReadyIn.cons rfl (fun K hK=>?_) AllReadyIn.nil
     refine zha rfl (.tmp 11) (.tmp 14) rfl W0.heap.size v pre.length (zaj Q pre.length) (by simp[Act.eval]) A7.out.1 ⟨w6.heap.size,0,none⟩ (x.1.at B d).cells (by simp[Act.eval]) rfl (zhq (heap_alloc_new _ _)) (cells_one _) (by have:=hlt;have:=hn'.out;omega) A7.out.2.1 ?_
     intro g8 c8 w8 hr8 hg8;obtain⟨d0,d1,E8⟩:=A7.out.2.2 g8 c8 w8 hr8 hg8;replace E8:=Zq E8;clear hr8 hg8 cl cl6 cl7;refine hK _ _ ?_;clear hK K;refine wpAnyIn_ready (rs:=[5]) (by kernel_rfl) (by simp) ?_
     refine AllReadyIn.cons rfl (fun K hK=>?_) AllReadyIn.nil
     rw[if_pos (by rfl)]
     go_simp
     refine hK _ _ ?_;clear hK K;refine wpAnyIn_done (by kernel_rfl) ?_ _
     gi_wp2
     exact fin.out B d _ _ E8.out
    ·skip
     rw[if_pos (by rfl)]
     go_simp
     refine hK _ _ ?_;clear hK K;refine wpAnyIn_ready (rs:=[0]) (by kernel_rfl) (by simp) ?_
     refine AllReadyIn.cons rfl (fun K hK=>?_) AllReadyIn.nil
     rw[if_pos (by rfl)]
     go_simp
     refine hK _ _ ?_;clear hK K;refine wpAnyIn_ready (rs:=[4]) (by kernel_rfl) (by simp) ?_
     refine AllReadyIn.cons rfl (fun K hK=>?_) AllReadyIn.nil
     refine zha rfl (.tmp 11) (.tmp 14) rfl W0.heap.size v pre.length (zaj Q pre.length) (by simp[Act.eval]) A7.out.1 ⟨w6.heap.size,0,none⟩ (x.1.at B d).cells (by simp[Act.eval]) rfl (zhq (heap_alloc_new _ _)) (cells_one _) (by have:=hlt;have:=hn'.out;omega) A7.out.2.1 ?_
     intro g8 c8 w8 hr8 hg8;obtain⟨d0,d1,E8⟩:=A7.out.2.2 g8 c8 w8 hr8 hg8;replace E8:=Zq E8;clear hr8 hg8 cl cl6 cl7;refine hK _ _ ?_;clear hK K;refine wpAnyIn_ready (rs:=[5]) (by kernel_rfl) (by simp) ?_
     refine AllReadyIn.cons rfl (fun K hK=>?_) AllReadyIn.nil
     rw[if_pos (by rfl)]
     go_simp
     refine hK _ _ ?_;clear hK K;refine wpAnyIn_done (by kernel_rfl) ?_ _
     gi_wp2
     exact fin.out B d _ _ E8.out
 case done =>
  rintro D ys W hD hS ⟨⟨v,Q,hv,hR,he⟩,hB,hN⟩ hK;have cl:=hv.cell;have hl:Hid (ys.length=((lst P n).filter f).length):=by
   show _=_
   rw[<- hS,List.length_map]
  rw[hS] at he;have R':Hid (zas (W.putObj D (.deferred none)) w.heap.size v ys.length Q):=(hR.own' (grownBy_putObj' W D _) (fun r e=>by cases e;exact⟨_,hK,rfl⟩)).base K0.out.size
  have K':Hid (Keep w (W.putObj D (.deferred none))):=Below.trans (show Below w.heap.size w W from hB) (belowK_b (w:=w) (Nat.le_refl _) _ D _ _ (Nat.le_trans K0.out.size hD) hK rfl rfl)
  replace hS:=Zq hS;replace he:=Zq he;replace hR:=Zq hR;replace hv:=Zq hv
  gi_wp2
  refine⟨by simp,.inl ⟨_,_,rfl,run_takeDeferred hK,?_⟩⟩
  exact⟨_,results_tmp rfl _ _ _,v,Q,rfl,by rw[<- hl.out];exact R'.out,by rw[<- hl.out];exact he.out,K'.out⟩
 case stop =>
  rintro D c' pre W _ _ h _;exact h.elim
end
end Go.Proofs.YtcogiogjpbkeaaaGreatDoor.T13
namespace Go.Proofs.YtcogiogjpbkeaaaGreatDoor.T13
open Go.RowKit Go.Sort Go.Lib Go.Shelf V12
section
variable{w w':World}{b0:Nat}{s:Int}{q t m:Nat}{A:Option Addr}{c n:Nat}{P:Nat->zaa}
def Got(w w':World)(e:Ending)(L:List zaa):Prop:=∃ v S,e=.returned v/\zas w' w.heap.size v L.length S/\(lst S L.length).map nm=L.map nm/\Keep w w'
theorem Got.from{w W w':World}{e:Ending}{L:List zaa}(g:Got W w' e L)(k:Keep w W):Got w w' e L:=by
 obtain⟨v,S,he,h1,h2,h3⟩:=g;exact⟨v,S,he,h1.base k.size,h2,k.trans h3⟩
set_option maxHeartbeats 1000000 in
theorem abv(h:ST w b0 s q t m A c n P)(hn:n<=1000)(hm:∀ j,j<n->(P j).m<=1000)(nd:Int):Calls Tryz.prog 73 #[.pointer (some ⟨q,0,none⟩),.int .i64 nd] w fun e w'=>Got w w' e ((lst P n).filter (onB nd)):=by
 obtain⟨W1,hW1⟩:=Zn (w.alloc (.cells #[.int .i64 nd] 3));have K1:Hid (Keep w W1):=by rw[hW1];exact Keep.one _ _
 have sz1:W1.heap.size=w.heap.size+1:=by rw[hW1,World.size_alloc]
 have bN:Boxed W1 w.heap.size 3 (.int .i64 nd):=by rw[hW1];exact Boxed.new _ _ _
 have K:Kf W1 111 #[.pointer (some ⟨w.heap.size,0,none⟩)] n P (onB nd):=⟨enters_of Tryz.func111 (by kernel_rfl) rfl,fun W' hB x _=>akx x w.heap.size nd W' (by rw[World.cell?_of_block (w:=W1) (hB w.heap.size (by omega))];exact bN.cell)⟩
 have hL:=Zq (list_fn (h.keep K1.out) hn hm K);have h1:=hmf;clear h K bN;replace sz1:=Zq sz1;have hw1:=Zq hW1;clear hW1
 go_enter Tryz.func73,Tryz.ntmps73
 go_wp2_with fail;rw[<- hw1.out];refine hL.out.mono ?_;rintro e w1 ⟨v,S,rfl,R,he,k⟩;have g:Hid (Got W1 w1 (.returned v) ((lst P n).filter (onB nd))):=⟨v,S,rfl,R,he,k⟩;clear R he k;go_wp2;go_ret
 exact g.out.from K1.out
end
end Go.Proofs.YtcogiogjpbkeaaaGreatDoor.T13
namespace Go.Proofs.YtcogiogjpbkeaaaGreatDoor.T13
open Go.RowKit Go.Sort Go.Lib Go.Shelf V12
attribute [local go_sem] Oper.semAt_some
set_option maxRecDepth 100000 in
set_option maxHeartbeats 1000000 in
theorem zxw(u:Nat)(l b1 b2:Nat)(J:List Unit->World->Prop)(W:World)(c1:W.cell? ⟨b1,0,none⟩=some (.pointer none))(h0:J [] W):
  CallsIn Fence.wide u Tryz.prog 150 #[.func (.yield l) #[] #[],.pointer (some ⟨b1,0,none⟩),.pointer (some ⟨b2,0,none⟩)] W fun e W'=>(∃ v,e=.returned v)/\J [] W':=by
 refine callsIn_of_wp Tryz.func150 rfl trivial ?_ rfl;simp only[Tryz.ntmps150,List.size_toArray,List.length_cons,List.length_nil,Nat.reduceAdd,Nat.reduceSub,Array.replicate_succ,Array.replicate_zero,List.push_toArray,List.append_toArray,List.nil_append,List.cons_append]
 gi_wp2
 refine bodyPost_ret (results_none rfl _ _ _) rfl ?_;exact⟨⟨_,rfl⟩,h0⟩
set_option maxRecDepth 100000 in
set_option maxHeartbeats 8000000 in
theorem zsf(kf:Nat)(caps:Array Value)(w:World):Calls Tryz.prog 110 #[.pointer none,.func (.func kf) #[] caps] w fun e w'=>e=.returned (.slice none 0 0)/\Keep w w':=by
 refine(callsIn_wide (n:=6)).1 ?_;have h1:1<=6:=by omega
 obtain⟨W1,hW1⟩:=Zn (w.alloc (.cells #[.slice none 0 0] 28));obtain⟨W0,hW0⟩:=Zn ((W1.alloc (.cells #[.pointer none] 91)).alloc (.cells #[.func (.func kf) #[] caps] 73));have sz1:W1.heap.size=w.heap.size+1:=by rw[hW1,World.size_alloc]
 have sz0:W0.heap.size=w.heap.size+3:=by rw[hW0,World.size_alloc,World.size_alloc,sz1]
 have K0:Hid (Keep w W0):=by rw[hW0,hW1];exact(((Keep.one _ _).alloc _).alloc _:Keep w _)
 have bO:Hid (Boxed W0 w.heap.size 28 (.slice none 0 0)):=by rw[hW0,hW1];exact((Boxed.new w _ _).alloc _).alloc _
 have bA:Boxed W0 (w.heap.size+1) 91 (.pointer none):=by rw[hW0,<- sz1];exact(Boxed.new W1 _ _).alloc _
 have hE:=Zq (zlv none (.func (.func kf) #[] caps) W1 ⟨_,_,rfl⟩);rw[sz1] at hE;have hS:SeqStopsK Fence.wide 5 Tryz.prog 150 #[.pointer (some ⟨w.heap.size+1,0,none⟩),.pointer (some ⟨w.heap.size+1+1,0,none⟩)] (fun _:Unit=>#[zaf.val]) (fun _ _=>True) (fun ys=>ys=[]) (fun _=>True) 0 W0:=fun l J Jx W hW _ _ _ h0 =>
  (zxw 5 l _ _ J W ((hW.cell (p:=⟨w.heap.size+1,0,none⟩) (by show w.heap.size+1<_;omega)).trans bA.cell) h0).mono fun _ _ ⟨he,hj⟩=>⟨he,Or.inl ⟨[],rfl,hj⟩⟩
 have hS:=Zq hS;clear bA;have hw0:=Zq hW0;clear hW0;refine callsIn_of_wp_marks Tryz.func110 rfl trivial ?_ rfl;simp only[Tryz.ntmps110,List.size_toArray,List.length_cons,List.length_nil,Nat.reduceAdd,Nat.reduceSub,Array.replicate_succ,Array.replicate_zero,List.push_toArray,List.append_toArray,List.nil_append,List.cons_append]
 gi_wp2_with fail
 refine⟨trivial,?_⟩;rw[<- hW1];clear hW1;refine(callsIn_wide.2 hE.out).mono ?_;rintro e w' ⟨rfl,rfl⟩;rw[<- hw0.out]
 gi_wp2
 clear hw0;refine wpIn_rangeFunc_ownH (α:=Unit) rfl h1 (gf:=150) (lb:=#[.pointer (some ⟨w.heap.size+1,0,none⟩),.pointer (some ⟨w.heap.size+1+1,0,none⟩)]) rfl trivial (enters_of Tryz.func150 (by kernel_rfl) rfl)
  hS.out (fun _ _=>trivial) (fun _ _ _ _ _ _ _ _=>trivial) (Below.refl _ _) (fun _=>rfl)
  (fun _ W=>Boxed W w.heap.size 28 (.slice none 0 0)/\Keep w W)
  (fun _ _ _=>False)
  (fun s X Y row ⟨hv,hB⟩ hg hr=>⟨hv.kept hg (fun e'=>by obtain⟨o,ho,hc⟩:=(hr _ e'.symm).2;rw[show X.heap[_]?=_ from hv] at ho;cases ho;cases hc),Below.grown hB hg hB.size (fun k e=>Nat.le_trans K0.out.size (hr k e).1)⟩)
  (fun _ _ _ _ _ hs _ _=>hs)
  ⟨bO.out,K0.out⟩
  (fun _ _ _=>True)
  (fun _ _ _ _ _ _ hs _ _=>hs)
  ?assign ?body ?done ?stop
 case assign =>
  rintro l pre x W K hI hK;unfold zaa.val zaf
  gi_wp2
  exact hK _ _ ((KeepsOthers.alloc _ _).from _) trivial ⟨hI.1.alloc _,hI.2.trans (Keep.one _ _)⟩ trivial
 case body =>
  rintro l pre x a' W hl _ _ _ hlt;exact absurd hlt (Nat.not_lt_zero _)
 case done =>
  rintro D ys W hD hS ⟨hv,hB⟩ hK;have cl:=hv.cell;have K':Hid (Keep w (W.putObj D (.deferred none))):=Below.trans (show Below w.heap.size w W from hB) (belowK_b (w:=w) (Nat.le_refl _) _ D _ _ (Nat.le_trans K0.out.size hD) hK rfl rfl)
  replace hS:=Zq hS;replace hv:=Zq hv
  gi_wp2
  refine⟨by simp,.inl ⟨_,_,rfl,run_takeDeferred hK,?_⟩⟩
  exact⟨_,results_tmp rfl _ _ _,rfl,K'.out⟩
 case stop =>
  rintro D c' pre W _ _ h _;exact h.elim
end Go.Proofs.YtcogiogjpbkeaaaGreatDoor.T13
