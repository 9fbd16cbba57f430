/-
  The reference's Sort of layer 6, walked. Conditions: at most 1000 pods, priorities up to 2^30, no ID twice.
-/
import Derived.Test.YtcogiogjpbkeaaaGreatDoorJ0
import Derived.Test.YtcogiogjpbkeaaaGreatDoorJ16
namespace Go.Proofs.YtcogiogjpbkeaaaGreatDoor.T18
open Go.RowKit Go.Sort Go.Lib V12 T13
theorem zdc{W:World}{base k:Nat}(hb:base<=k)(h:W.heap[k]?=some (.cells #[] 26 (0,0))):W.ownsRow base 26 9 (.slice (some ⟨k,0,none⟩) 0 0) 0 []:=
 ⟨rfl,.inr ⟨k,0,#[],rfl,hb,h,Nat.le_refl _,Nat.zero_le _,rfl,rfl⟩⟩
theorem zzt(w:World)(o:Obj)(cs:Array Value)(T:TypeId):((w.alloc o).alloc (.cells cs T)).heap[w.heap.size+1]?=some (.cells cs T (0,0)):=by
 have:=heap_alloc_new (w.alloc o) (.cells cs T)
 rwa [World.size_alloc] at this
theorem zzs(w:World)(o:Obj)(cs:Array Value)(T:TypeId):((w.alloc (.cells cs T)).alloc o).heap[w.heap.size]?=some (.cells cs T (0,0)):=(Keep.one _ _).block (heap_alloc_new w _)
theorem row_mem{L:List zaa}{j:Nat}(h:j<L.length):row L j∈L:=by
 unfold row;rw[List.getD_eq_getElem?_getD,List.getElem?_eq_getElem h];exact List.getElem_mem _
theorem zsl{P:Nat->zaa}{n t i:Nat}(h:(keys (lst P n)).Nodup)(ht:t<i)(hi:i<n):(P t).k≠(P i).k:=by
 have:=List.pairwise_iff_getElem.1 h t i (by simp[keys,lst];omega) (by simp[keys,lst];omega) ht
 simpa [keys,lst] using this
def zbc(M:List zaa)(a:Nat)(x:zaa):List zaa:=M.take a++x :: M.drop a
theorem zoo(M:List zaa)(a:Nat)(x:zaa):(zbc M a x).Perm (x :: M):=by
 unfold zbc;refine List.perm_middle.trans ?_;rw[List.take_append_drop]
theorem zgm{M:List zaa}{a:Nat}(h:a<=M.length):lst (row M) a=M.take a:=by
 refine List.ext_getElem? fun j=>?_
 by_cases hj:j<a
 ·rw[zaw hj,List.getElem?_take,if_pos hj,List.getElem?_eq_getElem (by omega)]
  unfold row;rw[List.getD_eq_getElem?_getD,List.getElem?_eq_getElem (by omega)]
  rfl
 ·rw[List.getElem?_eq_none (by rw[lst_len];omega),List.getElem?_eq_none (by rw[List.length_take];omega)]
theorem zfj{M:List zaa}{a n:Nat}(h:M.length=n):lst (fun t=>row M (a+t)) (n - a)=M.drop a:=by
 refine List.ext_getElem? fun j=>?_
 by_cases hj:j<n - a
 ·rw[zaw hj,List.getElem?_drop,List.getElem?_eq_getElem (by omega)]
  unfold row;rw[List.getD_eq_getElem?_getD,List.getElem?_eq_getElem (by omega)]
  rfl
 ·rw[List.getElem?_eq_none (by rw[lst_len];omega),List.getElem?_eq_none (by rw[List.length_drop];omega)]
theorem insL_row{M:List zaa}{a i:Nat}{x:zaa}(h:a<=M.length)(hi:M.length=i):zaj (row (zbc M a x)) (i+1)=zaj (row M) a++x.cells++zaj (fun t=>row M (a+t)) (i - a):=by
 have hl:(zbc M a x).length=i+1:=by rw[(zoo M a x).length_eq,List.length_cons,hi]
 rw[zfl,zfl,zfl,zgm h,zfj hi,<- hl,lst_row];unfold zbc;rw[List.flatMap_append,List.flatMap_cons,List.append_assoc]
theorem adt{M:List zaa}(h:zmh M){s t:Nat}(hs:s<t)(ht:t<M.length):zeh (row M s) (row M t)=true:=by
 have:=List.pairwise_iff_getElem.1 h s t (by omega) ht hs
 unfold row;rw[List.getD_eq_getElem?_getD,List.getElem?_eq_getElem (by omega),List.getD_eq_getElem?_getD,List.getElem?_eq_getElem ht]
 exact this
theorem mem_take_row{M:List zaa}{a:Nat}(h:a<=M.length){y:zaa}(hy:y∈M.take a):∃ s,s<a/\row M s=y:=by
 rw[<- zgm h] at hy;exact lst_mem.1 hy
theorem mem_drop_row{M:List zaa}{a:Nat}{y:zaa}(hy:y∈M.drop a):∃ s,a<=s/\s<M.length/\row M s=y:=by
 rw[<- zfj (n:=M.length) rfl] at hy;obtain⟨s,hs,e⟩:=lst_mem.1 hy;exact⟨a+s,by omega,by omega,e⟩
theorem aar{M:List zaa}{a:Nat}{x:zaa}(hk:∀ y∈M,y.k≠x.k)(h:zmh M)(ha:a<=M.length)(h1:∀ t,a<=t->t<M.length->zeh x (row M t)=true)(h2:a=0\/zeh x (row M (a - 1))=false):zmh (zbc M a x):=by
 have low:∀ s,s<a->zeh (row M s) x=true:=fun s hs=>by
  have h3:zeh (row M (a - 1)) x=true:=by
   rcases h2 with h2 | h2
   ·omega
   ·rcases zpv (hk _ (row_mem (L:=M) (j:=a - 1) (by omega))) with h | h
    ·exact h
    ·rw[h2] at h
     cases h
  by_cases e:s=a - 1
  ·rw[e]
   exact h3
  ·exact zdr (adt h (by omega) (by omega)) h3
 unfold zbc;refine List.pairwise_append.2 ⟨List.Pairwise.sublist (List.take_sublist a M) h,List.pairwise_cons.2 ⟨fun y hy=>?_,List.Pairwise.sublist (List.drop_sublist a M) h⟩,fun y hy z hz=>?_⟩
 ·obtain⟨s,hs1,hs2,rfl⟩:=mem_drop_row hy
  exact h1 s hs1 hs2
 ·obtain⟨s,hs,rfl⟩:=mem_take_row ha hy
  rcases List.mem_cons.1 hz with rfl | hz
  ·exact low s hs
  ·obtain⟨u,hu1,hu2,rfl⟩:=mem_drop_row hz
   exact adt h (by omega) hu2
theorem zea{wr:World}{base i cap g:Nat}{Q:Nat->zaa}(h:wr.ownsRow base 26 9 (.slice (some ⟨g,0,none⟩) i cap) i (zaj Q i)){at_:Nat}(ha:at_<=i){W:World}(k:Keep wr W):zdq W (.slice (some ⟨g,0,none⟩) at_ cap) at_ (zaj Q at_):=by
 refine .inr ⟨_,_,rfl,zaz _ _,fun j u hu=>?_⟩
 have hj:j<at_ * 9:=by have:=(List.getElem?_eq_some_iff.1 hu).1;rwa [zaz] at this
 rw[WideShapes.add_plain,Nat.zero_add];refine k.cell ?_;rw[h.cellAt j (by omega)]
 have e2:i=at_+(i - at_):=by omega
 rw[e2,zks,List.getElem?_append_left (by rw[zaz];exact hj)]
 exact hu
theorem zvj{wr:World}{base i cap g:Nat}{Q:Nat->zaa}(h:wr.ownsRow base 26 9 (.slice (some ⟨g,0,none⟩) i cap) i (zaj Q i)){at_:Nat}(ha:at_<=i)(hc:i<=cap){W:World}(k:Keep wr W):
  zdq W (.slice (if cap=at_ then some ⟨g,0,none⟩ else some ⟨g,at_ * 9,none⟩) (i - at_) (cap - at_)) (i - at_) (zaj (fun t=>Q (at_+t)) (i - at_)):=by
 by_cases he:cap=at_
 ·rw[if_pos he]
  refine .inr ⟨_,_,rfl,zaz _ _,fun j u hu=>?_⟩
  have hj:j<(i - at_) * 9:=by have:=(List.getElem?_eq_some_iff.1 hu).1;rwa [zaz] at this
  omega
 ·rw[if_neg he]
  refine .inr ⟨_,_,rfl,zaz _ _,fun j u hu=>?_⟩
  have hj:j<(i - at_) * 9:=by have:=(List.getElem?_eq_some_iff.1 hu).1;rwa [zaz] at this
  rw[WideShapes.add_plain];refine k.cell ?_;rw[h.cellAt (at_ * 9+j) (by omega)]
  have e2:i=at_+(i - at_):=by omega
  rw[e2,zks,List.getElem?_append_right (by rw[zaz];omega),zaz,Nat.add_sub_cancel_left]
  exact hu
theorem zjx{wr:World}{base i cap g:Nat}{Q:Nat->zaa}(h:wr.ownsRow base 26 9 (.slice (some ⟨g,0,none⟩) i cap) i (zaj Q i)){W:World}(k:Keep wr W):
  zdq W (.slice (some ⟨g,0,none⟩) i cap) (i - 0) (zaj (fun t=>Q (0+t)) (i - 0)):=by
 have:=zea h (Nat.le_refl i) k;rw[Nat.sub_zero,zet (R:=Q) i (fun t _=>by rw[Nat.zero_add])]
 exact this
set_option maxRecDepth 100000 in
set_option maxHeartbeats 16000000 in
theorem adh(A:Option Addr)(n c:Nat)(P:Nat->zaa)(w:World)(hR:zai w A n P)(hn:n<=1000)(hp:∀ j,j<n->-1073741824<=(P j).p/\(P j).p<=1073741824)(hu:(keys (lst P n)).Nodup):
  Calls Tryz.prog 42 #[.slice A n c] w fun e w'=>∃ B d,e=.returned (.slice B n d)/\Keep w w'/\zai w' B n (row (zht (lst P n))):=by
 have mixed:Tryz.prog.follows .mixedOrders=true:=by kernel_rfl
 replace hR:=Zq hR;replace hp:=Zq hp;replace hu:=Zq hu
 go_enter Tryz.func42,Tryz.ntmps42
 go_wp2
 go_loopg [3,4] n (fun gx s3 s4 wr=>∃ (i:Nat) (M:List zaa) (B:Option Addr) (d:Nat),i<=n/\gx=n - i/\s4=.int .i64 i/\s3=.slice B i d/\Hid (Keep w wr)/\Hid (wr.ownsRow w.heap.size 26 9 (.slice B i d) i (zaj (row M) i))/\Hid (M.Perm (lst P i))/\Hid (zmh M))
 case atStart=>exact⟨0,[],none,0,Nat.zero_le _,rfl,rfl,rfl,Keep.refl _,World.ownsRow_nil _ _ _ _,List.Perm.refl _,List.Pairwise.nil⟩
 case round =>
  obtain⟨i,M,B,d,hi,rfl,rfl,rfl,G,RW,PM,SO⟩:=hrel
  by_cases hlt:i<n
  ·have R2:=hR.out.keep G.out
   obtain⟨b,off,hA,ca⟩:=R2.adr (by omega)
   subst hA;have q1:=zar b off n c i hlt;have X:=ca i hlt;have ln:Hid (M.length=i):=(by show _=_;rw[PM.out.length_eq,lst_len])
   have hpx:=hp.out i hlt;clear ca;replace R2:=Zq R2;obtain⟨x,hx⟩:=Zn (P i);have nk:Hid (∀ y∈M,y.k≠x.k):=fun y hy=>by
    obtain⟨t,ht,e⟩:=lst_mem.1 (PM.out.mem_iff.1 hy);rw[<- e,hx];exact zsl hu.out ht hlt
   have hs:lst P (i+1)=lst P i++[x]:=by rw[lst_succ,hx]
   replace hs:=Zq hs;rw[<- hx] at X hpx;replace hx:=Zq hx;obtain⟨w1,hw1⟩:=Zn (wr);rw[<- hw1] at G RW R2 X ⊢;clear hw1;go_wp2
   go_loopg [5] i (fun gy s5 wr=>∃ j:Nat,s5=.int .i64 j/\j<=i/\j<=gy/\Hid (Gr w1 wr)/\Hid (∀ t,j<=t->t<i->zeh x (row M t)=true))
   case atStart=>exact⟨i,rfl,Nat.le_refl _,Nat.le_refl _,Gr.refl _,fun t h1 h2=>by omega⟩
   case round =>
    obtain⟨j,rfl,hji,hgy,GQ,CM⟩:=hrel;have X2:=X.keep GQ.out.keep;have fin:Hid ((j=0\/zeh x (row M (j - 1))=false)->(zbc M j x).Perm (lst P (i+1))/\zmh (zbc M j x)/\zaj (row (zbc M j x)) (i+1)=zaj (row M) j++x.cells++zaj (fun t=>row M (j+t)) (i - j)):=fun h=>by
     have hl:=ln.out;refine⟨by rw[hs.out];exact(zoo M j x).trans ((PM.out.cons x).trans (List.perm_append_singleton x _).symm),aar nk.out SO.out (by omega) (fun t h1 h2=>CM.out t h1 (by omega)) h,insL_row (by omega) hl⟩
    have RQ:=Zq (zal RW.out GQ.out.keep);have GK:Hid (Keep w wr):=G.out.trans GQ.out.keep
    by_cases hj0:0<j
    ·obtain⟨jp,rfl⟩:∃ jp,j=jp+1:=⟨j - 1,by omega⟩
     have hjz:(0:Int)<(jp:Int)+1:=by omega
     have hjd:decide ((0:Int)<(jp:Int)+1)=true:=decide_eq_true hjz;have hwp:IntKind.i64.wrap (jp:Int)=(jp:Int):=by rw[IntKind.wrap_i64];omega
     obtain⟨g,cap,hB,_,_⟩:=RQ.out.form (by omega)
     simp only[Value.slice.injEq] at hB;obtain⟨rfl,_,rfl⟩:=hB;have q2:=zar g 0 i d jp (by omega)
     rw[Nat.zero_add] at q2;have Y:=zcg RQ.out (j:=jp) (by omega)
     rw[Nat.zero_add] at Y;have hpy:-1073741824<=(row M jp).p/\(row M jp).p<=1073741824:=by
      obtain⟨t,ht,e⟩:=lst_mem.1 (PM.out.mem_iff.1 (row_mem (L:=M) (j:=jp) (by rw[ln.out];omega)))
      rw[<- e];exact hp.out t (by omega)
     obtain⟨y,hy⟩:=Zn (row M jp);rw[<- hy] at Y hpy;have hc:∀ (n:Nat) (os:Array Obj),Calls Tryz.prog 77 #[x.val,y.val] (grow (wr.drewN n) os) fun e w'=>e=.returned (.int .i64 (cmpP x y))/\∃ q os',w'=grow ((grow (wr.drewN n) os).drewN q) os':=fun n os=>zst x y _ hpx hpy
     have hcf:Hid (zeh x (row M jp)=decide (cmpP x y<0)):=by show _=_;rw[afq,hy]
     replace hy:=Zq hy;generalize cmpP x y=r at hc hcf;unfold zaa.val at hc;have x0:=grows X2.e0;have x1:=grows X2.e1;have x2:=grows X2.e2;have x3:=grows X2.e3;have x4:=grows X2.e4;have x5:=grows X2.e5;have x6:=grows X2.e6;have x7:=grows X2.e7;have x8:=grows X2.e8;have y0:=grows Y.e0;have y1:=grows Y.e1;have y2:=grows Y.e2;have y3:=grows Y.e3;have y4:=grows Y.e4;have y5:=grows Y.e5;have y6:=grows Y.e6;have y7:=grows Y.e7;have y8:=grows Y.e8;clear Y X2
     by_cases hr:r<0
     ·have hrd:decide (r<0)=true:=decide_eq_true hr
      have lt2:Hid (zeh x (row M jp)=true):=hcf.out.trans hrd;clear fin;go_wp2_with fail
      go_quiet_grown (first | (go_at_call 77;refine Calls.grown_of (hc _ _)))
      clear x0 x1 x2 x3 x4 x5 x6 x7 x8 y0 y1 y2 y3 y4 y5 y6 y7 y8 hc;have G2:Hid (Gr w1 (grow (wr.drewN nq) osq)):=GQ.out.trans ⟨nq,osq,rfl⟩;generalize grow (wr.drewN nq) osq=w2 at G2 ⊢;go_wp2;go_roundg jp
      case measure=>omega
      case rel =>
       refine⟨jp,by first | rfl | go_num | (congr 1;omega),by omega,Nat.le_refl _,G2,fun t h1 h2=>?_⟩
       by_cases e:t=jp
       ·rw[e];exact lt2.out
       ·exact CM.out t (by omega) h2
     ·have hrd:decide (r<0)=false:=decide_eq_false hr
      have fin2:=Zq (fin.out (Or.inr (hcf.out.trans hrd)));replace hr:=Zq hr;clear fin;go_wp2_with fail
      go_quiet_grown (first | (go_at_call 77;refine Calls.grown_of (hc _ _)))
      clear x0 x1 x2 x3 x4 x5 x6 x7 x8 y0 y1 y2 y3 y4 y5 y6 y7 y8 hc;have G2:Hid (Gr w1 (grow (wr.drewN nq) osq)):=GQ.out.trans ⟨nq,osq,rfl⟩;have K2:Hid (Keep wr (grow (wr.drewN nq) osq)):=Gr.keep ⟨nq,osq,rfl⟩;generalize grow (wr.drewN nq) osq=w2 at G2 K2 ⊢;have X3:=X.keep G2.out.keep;have hbl:=zbl X3.e0;have x0:=X3.e0;have x1:=X3.e1;have x2:=X3.e2;have x3:=X3.e3;have x4:=X3.e4;have x5:=X3.e5;have x6:=X3.e6;have x7:=X3.e7;have x8:=X3.e8;clear X3;replace K2:Hid (Keep wr w2):=K2;have hid2:i<=d:=zds RQ.out;have hz0:(0:Int)<=(jp:Int)+1:=by omega
      have hz1:(jp:Int)+1<=(d:Int):=by omega
      have hz2:(jp:Int)+1<=(i:Int):=by omega
      clear q2 hjz hjd hwp;go_wp2_with fail
      go_region_law (first
       | (refine zbi Tryz.tyP13 rfl (.tmp 31) (.tmp 34) rfl w2.heap.size (.slice (some ⟨w2.heap.size,0,none⟩) 0 0) 0 [] (by simp[Act.eval]) (zdc (by omega) (heap_alloc_new _ _)) (.slice (some ⟨g,0,none⟩) (jp+1) d) (jp+1) (zaj (row M) (jp+1)) (by simp[Act.eval]) (zea RQ.out hji (K2.out.trans (by repeat (first | exact Keep.refl _ | apply Keep.alloc | apply Keep.drew)))) (zbf _ _) (by omega) (by simp<;>omega) _ (Nat.zero_add _) ?_;intro v3 w3 hr3 hg3;have K3:Hid (Keep w2 w3):=zad (by repeat (first | exact Keep.refl _ | apply Keep.alloc | apply Keep.drew)) hg3 (fun q hq=>by simp[Value.ownBlock] at hq;omega);have z0:=K3.out.cell x0;have z1:=K3.out.cell x1;have z2:=K3.out.cell x2;have z3:=K3.out.cell x3;have z4:=K3.out.cell x4;have z5:=K3.out.cell x5;have z6:=K3.out.cell x6;have z7:=K3.out.cell x7;have z8:=K3.out.cell x8;simp only[List.nil_append] at hr3;replace hr3:=Zq hr3;replace hg3:=Zq hg3)
       | (refine zbi Tryz.tyP13 rfl (.tmp 31) (.tmp 34) rfl w2.heap.size (.slice (some ⟨w2.heap.size,0,none⟩) 0 0) 0 [] (by simp[Act.eval]) (zdc (by omega) (zzs _ _ _ _)) (.slice (some ⟨g,0,none⟩) (jp+1) d) (jp+1) (zaj (row M) (jp+1)) (by simp[Act.eval]) (zea RQ.out hji (K2.out.trans (by repeat (first | exact Keep.refl _ | apply Keep.alloc | apply Keep.drew)))) (zbf _ _) (by omega) (by simp<;>omega) _ (Nat.zero_add _) ?_;intro v3 w3 hr3 hg3;have K3:Hid (Keep w2 w3):=zad (by repeat (first | exact Keep.refl _ | apply Keep.alloc | apply Keep.drew)) hg3 (fun q hq=>by simp[Value.ownBlock] at hq;omega);have z0:=K3.out.cell x0;have z1:=K3.out.cell x1;have z2:=K3.out.cell x2;have z3:=K3.out.cell x3;have z4:=K3.out.cell x4;have z5:=K3.out.cell x5;have z6:=K3.out.cell x6;have z7:=K3.out.cell x7;have z8:=K3.out.cell x8;have B3:Hid (w3.heap[w2.heap.size+1]?=some (.cells #[.int .i64 x.k,.int .i64 x.p,.bool x.f,.int .i64 x.g,.slice x.A x.m x.c,.int .i64 x.a,.int .i64 x.h,.int .i64 x.d,.int .i64 x.t] 26 (0,0))):=(hg3.block (w2.heap.size+1) (by simp) (by simp[Value.ownBlock])).trans (zzt _ _ _ _);simp only[List.nil_append] at hr3;replace hr3:=Zq hr3;replace hg3:=Zq hg3)
       | (refine zbi Tryz.tyP13 rfl (.tmp 31) (.tmp 34) rfl w2.heap.size (.slice (some ⟨w2.heap.size+1,0,none⟩) 0 0) 0 [] (by simp[Act.eval]) (zdc (by omega) (zzt _ _ _ _)) (.slice (some ⟨g,0,none⟩) (jp+1) d) (jp+1) (zaj (row M) (jp+1)) (by simp[Act.eval]) (zea RQ.out hji (K2.out.trans (by repeat (first | exact Keep.refl _ | apply Keep.alloc | apply Keep.drew)))) (zbf _ _) (by omega) (by simp<;>omega) _ (Nat.zero_add _) ?_;intro v3 w3 hr3 hg3;have K3:Hid (Keep w2 w3):=zad (by repeat (first | exact Keep.refl _ | apply Keep.alloc | apply Keep.drew)) hg3 (fun q hq=>by simp[Value.ownBlock] at hq;omega);have z0:=K3.out.cell x0;have z1:=K3.out.cell x1;have z2:=K3.out.cell x2;have z3:=K3.out.cell x3;have z4:=K3.out.cell x4;have z5:=K3.out.cell x5;have z6:=K3.out.cell x6;have z7:=K3.out.cell x7;have z8:=K3.out.cell x8;have B3:Hid (w3.heap[w2.heap.size]?=some (.cells #[.int .i64 x.k,.int .i64 x.p,.bool x.f,.int .i64 x.g,.slice x.A x.m x.c,.int .i64 x.a,.int .i64 x.h,.int .i64 x.d,.int .i64 x.t] 26 (0,0))):=(hg3.block w2.heap.size (by simp<;>omega) (by simp[Value.ownBlock])).trans (zzs _ _ _ _);simp only[List.nil_append] at hr3;replace hr3:=Zq hr3;replace hg3:=Zq hg3)
       | (refine zbi Tryz.tyP13 rfl (.tmp 35) (.tmp 40) rfl w2.heap.size v3 (jp+1) (zaj (row M) (jp+1)) (by simp[Act.eval]) (hr3.out) (.slice (some ⟨w2.heap.size+1,0,none⟩) 1 1) 1 x.cells (by simp[Act.eval]) (zbh B3.out) (cells_one _) (by omega) (by have:=K3.out.size;simp<;>omega) _ rfl ?_;intro v4 w4 hr4 hg4;have K4:Hid (Keep w2 w4):=zad (K3.out) hg4 (fun q hq=>(hr3.out.lt q hq).1);replace hr4:=Zq hr4;replace hg4:=Zq hg4)
       | (refine zbi Tryz.tyP13 rfl (.tmp 35) (.tmp 40) rfl w2.heap.size v3 (jp+1) (zaj (row M) (jp+1)) (by simp[Act.eval]) (hr3.out) (.slice (some ⟨w2.heap.size,0,none⟩) 1 1) 1 x.cells (by simp[Act.eval]) (zbh B3.out) (cells_one _) (by omega) (by have:=K3.out.size;simp<;>omega) _ rfl ?_;intro v4 w4 hr4 hg4;have K4:Hid (Keep w2 w4):=zad (K3.out) hg4 (fun q hq=>(hr3.out.lt q hq).1);replace hr4:=Zq hr4;replace hg4:=Zq hg4)
       | (refine zbi Tryz.tyP13 rfl (.tmp 35) (.tmp 40) rfl w2.heap.size v3 (jp+1) (zaj (row M) (jp+1)) (by simp[Act.eval]) (zal hr3.out (Keep.one _ _)) (.slice (some ⟨w3.heap.size,0,none⟩) 1 1) 1 x.cells (by simp[Act.eval]) (zbh (heap_alloc_new _ _)) (cells_one _) (by omega) (by have:=K3.out.size;simp<;>omega) _ rfl ?_;intro v4 w4 hr4 hg4;have K4:Hid (Keep w2 w4):=zad (K3.out.trans (Keep.one _ _)) hg4 (fun q hq=>(hr3.out.lt q hq).1);replace hr4:=Zq hr4;replace hg4:=Zq hg4)
       | (refine zbi Tryz.tyP13 rfl (.tmp 41) (.tmp 44) rfl w2.heap.size v4 (jp+1+1) (zaj (row M) (jp+1)++x.cells) (by simp[Act.eval]) hr4.out (.slice (if d=jp+1 then some ⟨g,0,none⟩ else some ⟨g,(jp+1) * 9,none⟩) (i - (jp+1)) (d - (jp+1))) (i - (jp+1)) (zaj (fun t=>row M ((jp+1)+t)) (i - (jp+1))) (by simp[Act.eval]) (zvj RQ.out hji hid2 (K2.out.trans K4.out)) (zbf _ _) (by omega) (by have:=K4.out.size;simp<;>omega) (i+1) (by omega) ?_;intro v5 w5 hr5 hg5;have K5:Hid (Keep w2 w5):=zad K4.out hg5 (fun q hq=>(hr4.out.lt q hq).1);replace hg5:=Zq hg5;obtain⟨B5,d5,hv5,_⟩:=zan hr5;subst hv5;replace hr5:=Zq hr5))
      all_goals
       have GF:Hid (Keep w w5):=GK.out.trans (K2.out.trans K5.out);have RF:Hid (w5.ownsRow w.heap.size 26 9 (.slice B5 (i+1) d5) (i+1) (zaj (row (zbc M (jp+1) x)) (i+1))):=by
        show World.ownsRow _ _ _ _ _ _ _
        rw[fin2.out.2.2];exact zbx hr5.out (GK.out.trans K2.out).size
       go_wp2
       all_goals
        go_roundg (n - (i+1))
        case measure=>omega
        case rel=>exact⟨i+1,zbc M (jp+1) x,B5,d5,hlt,rfl,by go_num,rfl,GF,RF,fin2.out.1,fin2.out.2.1⟩
    ·obtain rfl:j=0:=by omega
     have fin2:=Zq (fin.out (Or.inl rfl));clear fin;go_wp2_with fail
     go_quiet (fail)
     have G2:Hid (Gr w1 (wr.drewN nq)):=GQ.out.drewN nq;have K2:Hid (Keep wr (wr.drewN nq)):=(Gr.refl wr).drewN nq |>.keep;generalize wr.drewN nq=w2 at G2 K2 ⊢;have X3:=X.keep G2.out.keep;have hbl:=zbl X3.e0;have x0:=X3.e0;have x1:=X3.e1;have x2:=X3.e2;have x3:=X3.e3;have x4:=X3.e4;have x5:=X3.e5;have x6:=X3.e6;have x7:=X3.e7;have x8:=X3.e8;clear X3 X2;rcases RQ.out.2 with ⟨hv,hi0⟩ | ⟨g,cap,cur,hv,_,_,hid2,_⟩
     ·simp only[Value.slice.injEq] at hv
      obtain⟨rfl,hv⟩:=hv;have hi1:i<=0:=by omega
      obtain rfl:d=0:=hv.2;replace hv:=Zq hv;replace hi0:=Zq hi0;go_wp2_with fail
      go_region_law (first
       | (refine zbi Tryz.tyP13 rfl (.tmp 31) (.tmp 34) rfl w2.heap.size (.slice (some ⟨w2.heap.size,0,none⟩) 0 0) 0 [] (by simp[Act.eval]) (zdc (by omega) (heap_alloc_new _ _)) (.slice none 0 0) (0) (zaj (row M) (0)) (by simp[Act.eval]) ((fun (_:Keep wr _)=>(.inl ⟨rfl,rfl,rfl⟩:zdq _ _ _ _)) (K2.out.trans (by repeat (first | exact Keep.refl _ | apply Keep.alloc | apply Keep.drew)))) (zbf _ _) (by omega) (by simp<;>omega) _ (Nat.zero_add _) ?_;intro v3 w3 hr3 hg3;have K3:Hid (Keep w2 w3):=zad (by repeat (first | exact Keep.refl _ | apply Keep.alloc | apply Keep.drew)) hg3 (fun q hq=>by simp[Value.ownBlock] at hq;omega);have z0:=K3.out.cell x0;have z1:=K3.out.cell x1;have z2:=K3.out.cell x2;have z3:=K3.out.cell x3;have z4:=K3.out.cell x4;have z5:=K3.out.cell x5;have z6:=K3.out.cell x6;have z7:=K3.out.cell x7;have z8:=K3.out.cell x8;simp only[List.nil_append] at hr3;replace hr3:=Zq hr3;replace hg3:=Zq hg3)
       | (refine zbi Tryz.tyP13 rfl (.tmp 31) (.tmp 34) rfl w2.heap.size (.slice (some ⟨w2.heap.size,0,none⟩) 0 0) 0 [] (by simp[Act.eval]) (zdc (by omega) (zzs _ _ _ _)) (.slice none 0 0) (0) (zaj (row M) (0)) (by simp[Act.eval]) ((fun (_:Keep wr _)=>(.inl ⟨rfl,rfl,rfl⟩:zdq _ _ _ _)) (K2.out.trans (by repeat (first | exact Keep.refl _ | apply Keep.alloc | apply Keep.drew)))) (zbf _ _) (by omega) (by simp<;>omega) _ (Nat.zero_add _) ?_;intro v3 w3 hr3 hg3;have K3:Hid (Keep w2 w3):=zad (by repeat (first | exact Keep.refl _ | apply Keep.alloc | apply Keep.drew)) hg3 (fun q hq=>by simp[Value.ownBlock] at hq;omega);have z0:=K3.out.cell x0;have z1:=K3.out.cell x1;have z2:=K3.out.cell x2;have z3:=K3.out.cell x3;have z4:=K3.out.cell x4;have z5:=K3.out.cell x5;have z6:=K3.out.cell x6;have z7:=K3.out.cell x7;have z8:=K3.out.cell x8;have B3:Hid (w3.heap[w2.heap.size+1]?=some (.cells #[.int .i64 x.k,.int .i64 x.p,.bool x.f,.int .i64 x.g,.slice x.A x.m x.c,.int .i64 x.a,.int .i64 x.h,.int .i64 x.d,.int .i64 x.t] 26 (0,0))):=(hg3.block (w2.heap.size+1) (by simp) (by simp[Value.ownBlock])).trans (zzt _ _ _ _);simp only[List.nil_append] at hr3;replace hr3:=Zq hr3;replace hg3:=Zq hg3)
       | (refine zbi Tryz.tyP13 rfl (.tmp 31) (.tmp 34) rfl w2.heap.size (.slice (some ⟨w2.heap.size+1,0,none⟩) 0 0) 0 [] (by simp[Act.eval]) (zdc (by omega) (zzt _ _ _ _)) (.slice none 0 0) (0) (zaj (row M) (0)) (by simp[Act.eval]) ((fun (_:Keep wr _)=>(.inl ⟨rfl,rfl,rfl⟩:zdq _ _ _ _)) (K2.out.trans (by repeat (first | exact Keep.refl _ | apply Keep.alloc | apply Keep.drew)))) (zbf _ _) (by omega) (by simp<;>omega) _ (Nat.zero_add _) ?_;intro v3 w3 hr3 hg3;have K3:Hid (Keep w2 w3):=zad (by repeat (first | exact Keep.refl _ | apply Keep.alloc | apply Keep.drew)) hg3 (fun q hq=>by simp[Value.ownBlock] at hq;omega);have z0:=K3.out.cell x0;have z1:=K3.out.cell x1;have z2:=K3.out.cell x2;have z3:=K3.out.cell x3;have z4:=K3.out.cell x4;have z5:=K3.out.cell x5;have z6:=K3.out.cell x6;have z7:=K3.out.cell x7;have z8:=K3.out.cell x8;have B3:Hid (w3.heap[w2.heap.size]?=some (.cells #[.int .i64 x.k,.int .i64 x.p,.bool x.f,.int .i64 x.g,.slice x.A x.m x.c,.int .i64 x.a,.int .i64 x.h,.int .i64 x.d,.int .i64 x.t] 26 (0,0))):=(hg3.block w2.heap.size (by simp<;>omega) (by simp[Value.ownBlock])).trans (zzs _ _ _ _);simp only[List.nil_append] at hr3;replace hr3:=Zq hr3;replace hg3:=Zq hg3)
       | (refine zbi Tryz.tyP13 rfl (.tmp 35) (.tmp 40) rfl w2.heap.size v3 (0) (zaj (row M) (0)) (by simp[Act.eval]) (hr3.out) (.slice (some ⟨w2.heap.size+1,0,none⟩) 1 1) 1 x.cells (by simp[Act.eval]) (zbh B3.out) (cells_one _) (by omega) (by have:=K3.out.size;simp<;>omega) _ rfl ?_;intro v4 w4 hr4 hg4;have K4:Hid (Keep w2 w4):=zad (K3.out) hg4 (fun q hq=>(hr3.out.lt q hq).1);replace hr4:=Zq hr4;replace hg4:=Zq hg4)
       | (refine zbi Tryz.tyP13 rfl (.tmp 35) (.tmp 40) rfl w2.heap.size v3 (0) (zaj (row M) (0)) (by simp[Act.eval]) (hr3.out) (.slice (some ⟨w2.heap.size,0,none⟩) 1 1) 1 x.cells (by simp[Act.eval]) (zbh B3.out) (cells_one _) (by omega) (by have:=K3.out.size;simp<;>omega) _ rfl ?_;intro v4 w4 hr4 hg4;have K4:Hid (Keep w2 w4):=zad (K3.out) hg4 (fun q hq=>(hr3.out.lt q hq).1);replace hr4:=Zq hr4;replace hg4:=Zq hg4)
       | (refine zbi Tryz.tyP13 rfl (.tmp 35) (.tmp 40) rfl w2.heap.size v3 (0) (zaj (row M) (0)) (by simp[Act.eval]) (zal hr3.out (Keep.one _ _)) (.slice (some ⟨w3.heap.size,0,none⟩) 1 1) 1 x.cells (by simp[Act.eval]) (zbh (heap_alloc_new _ _)) (cells_one _) (by omega) (by have:=K3.out.size;simp<;>omega) _ rfl ?_;intro v4 w4 hr4 hg4;have K4:Hid (Keep w2 w4):=zad (K3.out.trans (Keep.one _ _)) hg4 (fun q hq=>(hr3.out.lt q hq).1);replace hr4:=Zq hr4;replace hg4:=Zq hg4)
       | (refine zbi Tryz.tyP13 rfl (.tmp 41) (.tmp 44) rfl w2.heap.size v4 (0+1) (zaj (row M) (0)++x.cells) (by simp[Act.eval]) hr4.out (.slice none 0 0) (i - (0)) (zaj (fun t=>row M ((0)+t)) (i - (0))) (by simp[Act.eval]) ((fun (_:Keep wr _)=>(.inl ⟨rfl,by rw[hi0.out],by rw[hi0.out];rfl⟩:zdq _ _ _ _)) (K2.out.trans K4.out)) (zbf _ _) (by omega) (by have:=K4.out.size;simp<;>omega) (i+1) (by omega) ?_;intro v5 w5 hr5 hg5;have K5:Hid (Keep w2 w5):=zad K4.out hg5 (fun q hq=>(hr4.out.lt q hq).1);replace hg5:=Zq hg5;obtain⟨B5,d5,hv5,_⟩:=zan hr5;subst hv5;replace hr5:=Zq hr5))
      all_goals
       have GF:Hid (Keep w w5):=GK.out.trans (K2.out.trans K5.out);have RF:Hid (w5.ownsRow w.heap.size 26 9 (.slice B5 (i+1) d5) (i+1) (zaj (row (zbc M (0) x)) (i+1))):=by
        show World.ownsRow _ _ _ _ _ _ _
        rw[fin2.out.2.2];exact zbx hr5.out (GK.out.trans K2.out).size
       go_wp2
       all_goals
        go_roundg (n - (i+1))
        case measure=>omega
        case rel=>exact⟨i+1,zbc M (0) x,B5,d5,hlt,rfl,by go_num,rfl,GF,RF,fin2.out.1,fin2.out.2.1⟩
     ·simp only[Value.slice.injEq] at hv
      obtain⟨rfl,_,rfl⟩:=hv;go_wp2_with fail
      go_region_law (first
       | (refine zbi Tryz.tyP13 rfl (.tmp 31) (.tmp 34) rfl w2.heap.size (.slice (some ⟨w2.heap.size,0,none⟩) 0 0) 0 [] (by simp[Act.eval]) (zdc (by omega) (heap_alloc_new _ _)) (.slice (some ⟨g,0,none⟩) 0 d) (0) (zaj (row M) (0)) (by simp[Act.eval]) (zea RQ.out (Nat.zero_le _) (K2.out.trans (by repeat (first | exact Keep.refl _ | apply Keep.alloc | apply Keep.drew)))) (zbf _ _) (by omega) (by simp<;>omega) _ (Nat.zero_add _) ?_;intro v3 w3 hr3 hg3;have K3:Hid (Keep w2 w3):=zad (by repeat (first | exact Keep.refl _ | apply Keep.alloc | apply Keep.drew)) hg3 (fun q hq=>by simp[Value.ownBlock] at hq;omega);have z0:=K3.out.cell x0;have z1:=K3.out.cell x1;have z2:=K3.out.cell x2;have z3:=K3.out.cell x3;have z4:=K3.out.cell x4;have z5:=K3.out.cell x5;have z6:=K3.out.cell x6;have z7:=K3.out.cell x7;have z8:=K3.out.cell x8;simp only[List.nil_append] at hr3;replace hr3:=Zq hr3;replace hg3:=Zq hg3)
       | (refine zbi Tryz.tyP13 rfl (.tmp 31) (.tmp 34) rfl w2.heap.size (.slice (some ⟨w2.heap.size,0,none⟩) 0 0) 0 [] (by simp[Act.eval]) (zdc (by omega) (zzs _ _ _ _)) (.slice (some ⟨g,0,none⟩) 0 d) (0) (zaj (row M) (0)) (by simp[Act.eval]) (zea RQ.out (Nat.zero_le _) (K2.out.trans (by repeat (first | exact Keep.refl _ | apply Keep.alloc | apply Keep.drew)))) (zbf _ _) (by omega) (by simp<;>omega) _ (Nat.zero_add _) ?_;intro v3 w3 hr3 hg3;have K3:Hid (Keep w2 w3):=zad (by repeat (first | exact Keep.refl _ | apply Keep.alloc | apply Keep.drew)) hg3 (fun q hq=>by simp[Value.ownBlock] at hq;omega);have z0:=K3.out.cell x0;have z1:=K3.out.cell x1;have z2:=K3.out.cell x2;have z3:=K3.out.cell x3;have z4:=K3.out.cell x4;have z5:=K3.out.cell x5;have z6:=K3.out.cell x6;have z7:=K3.out.cell x7;have z8:=K3.out.cell x8;have B3:Hid (w3.heap[w2.heap.size+1]?=some (.cells #[.int .i64 x.k,.int .i64 x.p,.bool x.f,.int .i64 x.g,.slice x.A x.m x.c,.int .i64 x.a,.int .i64 x.h,.int .i64 x.d,.int .i64 x.t] 26 (0,0))):=(hg3.block (w2.heap.size+1) (by simp) (by simp[Value.ownBlock])).trans (zzt _ _ _ _);simp only[List.nil_append] at hr3;replace hr3:=Zq hr3;replace hg3:=Zq hg3)
       | (refine zbi Tryz.tyP13 rfl (.tmp 31) (.tmp 34) rfl w2.heap.size (.slice (some ⟨w2.heap.size+1,0,none⟩) 0 0) 0 [] (by simp[Act.eval]) (zdc (by omega) (zzt _ _ _ _)) (.slice (some ⟨g,0,none⟩) 0 d) (0) (zaj (row M) (0)) (by simp[Act.eval]) (zea RQ.out (Nat.zero_le _) (K2.out.trans (by repeat (first | exact Keep.refl _ | apply Keep.alloc | apply Keep.drew)))) (zbf _ _) (by omega) (by simp<;>omega) _ (Nat.zero_add _) ?_;intro v3 w3 hr3 hg3;have K3:Hid (Keep w2 w3):=zad (by repeat (first | exact Keep.refl _ | apply Keep.alloc | apply Keep.drew)) hg3 (fun q hq=>by simp[Value.ownBlock] at hq;omega);have z0:=K3.out.cell x0;have z1:=K3.out.cell x1;have z2:=K3.out.cell x2;have z3:=K3.out.cell x3;have z4:=K3.out.cell x4;have z5:=K3.out.cell x5;have z6:=K3.out.cell x6;have z7:=K3.out.cell x7;have z8:=K3.out.cell x8;have B3:Hid (w3.heap[w2.heap.size]?=some (.cells #[.int .i64 x.k,.int .i64 x.p,.bool x.f,.int .i64 x.g,.slice x.A x.m x.c,.int .i64 x.a,.int .i64 x.h,.int .i64 x.d,.int .i64 x.t] 26 (0,0))):=(hg3.block w2.heap.size (by simp<;>omega) (by simp[Value.ownBlock])).trans (zzs _ _ _ _);simp only[List.nil_append] at hr3;replace hr3:=Zq hr3;replace hg3:=Zq hg3)
       | (refine zbi Tryz.tyP13 rfl (.tmp 35) (.tmp 40) rfl w2.heap.size v3 (0) (zaj (row M) (0)) (by simp[Act.eval]) (hr3.out) (.slice (some ⟨w2.heap.size+1,0,none⟩) 1 1) 1 x.cells (by simp[Act.eval]) (zbh B3.out) (cells_one _) (by omega) (by have:=K3.out.size;simp<;>omega) _ rfl ?_;intro v4 w4 hr4 hg4;have K4:Hid (Keep w2 w4):=zad (K3.out) hg4 (fun q hq=>(hr3.out.lt q hq).1);replace hr4:=Zq hr4;replace hg4:=Zq hg4)
       | (refine zbi Tryz.tyP13 rfl (.tmp 35) (.tmp 40) rfl w2.heap.size v3 (0) (zaj (row M) (0)) (by simp[Act.eval]) (hr3.out) (.slice (some ⟨w2.heap.size,0,none⟩) 1 1) 1 x.cells (by simp[Act.eval]) (zbh B3.out) (cells_one _) (by omega) (by have:=K3.out.size;simp<;>omega) _ rfl ?_;intro v4 w4 hr4 hg4;have K4:Hid (Keep w2 w4):=zad (K3.out) hg4 (fun q hq=>(hr3.out.lt q hq).1);replace hr4:=Zq hr4;replace hg4:=Zq hg4)
       | (refine zbi Tryz.tyP13 rfl (.tmp 35) (.tmp 40) rfl w2.heap.size v3 (0) (zaj (row M) (0)) (by simp[Act.eval]) (zal hr3.out (Keep.one _ _)) (.slice (some ⟨w3.heap.size,0,none⟩) 1 1) 1 x.cells (by simp[Act.eval]) (zbh (heap_alloc_new _ _)) (cells_one _) (by omega) (by have:=K3.out.size;simp<;>omega) _ rfl ?_;intro v4 w4 hr4 hg4;have K4:Hid (Keep w2 w4):=zad (K3.out.trans (Keep.one _ _)) hg4 (fun q hq=>(hr3.out.lt q hq).1);replace hr4:=Zq hr4;replace hg4:=Zq hg4)
       | (refine zbi Tryz.tyP13 rfl (.tmp 41) (.tmp 44) rfl w2.heap.size v4 (0+1) (zaj (row M) (0)++x.cells) (by simp[Act.eval]) hr4.out (.slice (some ⟨g,0,none⟩) i d) (i - (0)) (zaj (fun t=>row M ((0)+t)) (i - (0))) (by simp[Act.eval]) (zjx RQ.out (K2.out.trans K4.out)) (zbf _ _) (by omega) (by have:=K4.out.size;simp<;>omega) (i+1) (by omega) ?_;intro v5 w5 hr5 hg5;have K5:Hid (Keep w2 w5):=zad K4.out hg5 (fun q hq=>(hr4.out.lt q hq).1);replace hg5:=Zq hg5;obtain⟨B5,d5,hv5,_⟩:=zan hr5;subst hv5;replace hr5:=Zq hr5))
      all_goals
       have GF:Hid (Keep w w5):=GK.out.trans (K2.out.trans K5.out);have RF:Hid (w5.ownsRow w.heap.size 26 9 (.slice B5 (i+1) d5) (i+1) (zaj (row (zbc M (0) x)) (i+1))):=by
        show World.ownsRow _ _ _ _ _ _ _
        rw[fin2.out.2.2];exact zbx hr5.out (GK.out.trans K2.out).size
       go_wp2
       all_goals
        go_roundg (n - (i+1))
        case measure=>omega
        case rel=>exact⟨i+1,zbc M (0) x,B5,d5,hlt,rfl,by go_num,rfl,GF,RF,fin2.out.1,fin2.out.2.1⟩
  ·obtain rfl:i=n:=by omega
   have fin:Hid (M=zht (lst P i)/\zai wr B i (row M)):=by
    have e:M=zht (lst P i):=znt SO.out (zns hu.out) (PM.out.trans (zdj _).symm);have ln:M.length=i:=by rw[PM.out.length_eq,lst_len]
    refine⟨e,by omega,fun h0=>?_,fun t ht=>?_⟩
    ·obtain⟨g,cap,e,_,_⟩:=RW.out.form h0
     have e':=e;simp only[Value.slice.injEq] at e';obtain⟨rfl,_,rfl⟩:=e';exact⟨g,0,rfl,fun t ht=>zcg RW.out ht⟩
    ·obtain⟨s,hs,e⟩:=lst_mem.1 (PM.out.mem_iff.1 (row_mem (L:=M) (j:=t) (by omega)))
     rw[<- e];exact(hR.out.is s hs).keep G.out
   go_wp2;go_ret
   exact⟨B,d,rfl,G.out,by rw[<- fin.out.1];exact fin.out.2⟩
end Go.Proofs.YtcogiogjpbkeaaaGreatDoor.T18
