/-
  The landed victims: the requests of the pods that hold resources of a node, as a map. Condition: at most 100 pods.
  reserve.Sees, Pods, Own, All; the reference's Sees. Condition: at most 100 pods.
  An append to an own row keeps what was there before the row. No condition.
-/
import Derived.Test.YtcogiogjpbkeaaaGreatDoorJ0
import Derived.Test.YtcogiogjpbkeaaaGreatDoorJ41
import Derived.Test.YtcogiogjpbkeaaaGreatDoorJ30
namespace Go.Proofs.YtcogiogjpbkeaaaGreatDoor.T18
open Go.RowKit Go.Sort Go.Lib V12 T13 T14 T15 T16 T17
open Go.ChangeMaps (setBlock)
theorem Tryz.zsl18(w:World):(zeroValue 24).run Tryz.prog w=.ok (.slice none 0 0) w:=by kernel_rfl
theorem akp(w:World):(Instr.makeMap 112 none).run Tryz.prog w=.ok (.map (some w.heap.size)) (w.alloc (.map #[] 0)):=by
 simp[Instr.makeMap,Result.andThen]
def hvL(l:List zaa):List (Int × Value):=l.map fun y=>(y.k,.slice y.A y.m y.c)
theorem agi(l:List zaa):(hvL l).map (·.1)=keys l:=by unfold hvL keys;rw[List.map_map];rfl
theorem agv(H:List zaa)(k:Int):MV.lookV (hvL H) k=(zcz H k).map fun y=>.slice y.A y.m y.c:=by
 unfold hvL zcz
 induction H with
 | nil=>rfl
 | cons y H ih =>
   rw[List.map_cons,List.find?_cons];show(if k=y.k then some _ else MV.lookV _ k)=_
   by_cases e:y.k=k
   ·rw[if_pos e.symm,show decide (y.k=k)=true from decide_eq_true e]
    rfl
   ·rw[if_neg (fun h=>e h.symm),show decide (y.k=k)=false from decide_eq_false e]
    exact ih
theorem agh(H:List zaa)(k:Int):((hvL H).filter fun x=>decide (x.1≠k))=hvL (zcv H k):=by
 unfold hvL zcv;rw[List.filter_map];rfl
def hdB(x:zaa):Bool:=!zdm 2 x
theorem aan(nd:Int)(L:List zaa):(L.filter (onB nd)).filter hdB=zfh nd L:=by
 unfold zfh;rw[List.filter_filter];refine List.filter_congr fun y _=>?_
 unfold hdB zdm onB holds;rw[<- decide_not,<- Bool.decide_and,decide_eq_decide];omega
theorem zvf{w w':World}{base n b:Nat}{v:Value}{S:Nat->zaa}(h:zas w base v n S)(f:Fr (·=b) w w')(hb:b<base):zas w' base v n S:=by
 have go:∀ {n z:Nat} {T:TypeId} {u:Value} {xs:List Value},w.ownsRow base T z u n xs->w'.ownsRow base T z u n xs:=fun {n z T u xs} hr=>zao hr fun g hg=>f.block g (hr.lt g hg).2 fun e=>by
  have:=(hr.lt g hg).1;omega
 exact⟨go h.row,fun j hj=>go (h.own j hj),h.ok⟩
section
variable{CS:zbn}{w w1:World}{d q:Nat}{M:List NV}{L:List zaa}{X:Nat->Prop}
set_option maxRecDepth 100000 in
set_option maxHeartbeats 8000000 in
theorem aet(C:Con CS)(h:CS w d q M L X w1)(nd:Int)(hd:I64 nd)(hl:L.length<=100):
  Calls Tryz.prog 70 #[.pointer (some ⟨q,0,none⟩),.int .i64 nd] w1 fun e w'=>∃ b H,e=.returned (.map (some b))/\w1.heap.size<=b/\MV.Is w' b (hvL H)/\H.map nm=zfh nd L/\(∀ y∈H,Req w' w1.heap.size y/\zcy y)/\Keep w1 w':=by
 have ok:=Zq (C.ok h);have hmm:=akp w1;obtain⟨W,hW⟩:=Zn (w1.alloc (.map #[] 0));have hI:Hid (MV.Is W w1.heap.size []):=by rw[hW];exact MV.is_new w1
 have kW:Hid (Keep w1 W):=by rw[hW];exact Keep.one _ _
 have sW:Hid (w1.heap.size<W.heap.size):=by rw[hW,World.size_alloc];exact Nat.lt_succ_self _
 obtain⟨b,hb⟩:=Zn (w1.heap.size);have cO:=Zq (C.on nd (C.keep h kW.out) hd hl);rw[<- hb,<- hW] at hmm;rw[<- hb] at hI sW;replace hb:=Zq hb;replace hW:=Zq hW;replace h:=Zq h
 go_enter Tryz.func70,Tryz.ntmps70
 go_wp2_with fail;refine cO.out.mono ?_;rintro e w2 ⟨va,S,rfl,hR,hS,k2⟩;obtain⟨n,hn⟩:=Zn ((L.filter (onB nd)).length);rw[<- hn] at hR hS;have n100:n<=100:=by rw[hn];exact Nat.le_trans (List.length_filter_le _ _) hl
 obtain⟨A,c,hv,_⟩:=zan hR.row;subst hv;obtain⟨TT,hTT⟩:∃ TT:Nat->List zaa,TT=fun j=>(T13.lst S j).filter hdB:=⟨_,rfl⟩
 have tt0:Hid (TT 0=[]):=by show _=_;rw[hTT];rfl
 have ttS:Hid (∀ j,TT (j+1)=if hdB (S j)=true then TT j++[S j] else TT j):=fun j=>by
  rw[hTT];show(T13.lst S (j+1)).filter _=_
  rw[T13.lst_succ,List.filter_append]
  by_cases e:hdB (S j)=true
  ·rw[if_pos e,List.filter_cons_of_pos e];rfl
  ·rw[if_neg e,List.filter_cons_of_neg e,List.filter_nil,List.append_nil]
 have ttM:Hid (∀ i,∀ y∈TT i,∃ j,j<i/\y=S j):=fun i y hy=>by
  rw[hTT] at hy;obtain⟨j,hj,e⟩:=lst_mem.1 (List.mem_filter.1 hy).1;exact⟨j,hj,e.symm⟩
 have ttN:Hid ((TT n).map nm=zfh nd L):=by
  show _=_
  rw[<- aan,<- hS,hTT,List.filter_map];rfl
 have ku:Hid ((keys (T13.lst S n)).Nodup):=by
  show List.Nodup _
  rw[<- zbq,hS];exact zjm _ ok.out.lok.nod
 have i2:Hid (MV.Is w2 b (hvL (TT 0))):=by rw[tt0.out];exact hI.out.of (Below.block k2 _ hI.out.lt)
 have K2:Hid (Keep w1 w2):=kW.out.trans k2;have hR2:Hid (zas w2 W.heap.size (.slice A n c) n S):=hR;clear hR cO hI;replace hS:=Zq hS;replace hn:=Zq hn;replace k2:=Zq k2;replace hTT:=Zq hTT;generalize hwo:w2=wo at *;clear hwo;go_wp2
 go_loopg [7,13] n (fun gx _ s13 wr=>∃ j:Nat,j<=n/\gx=n - j/\s13=.int .i64 j/\Hid (MV.Is wr b (hvL (TT j)))/\Hid (zas wr W.heap.size (.slice A n c) n S)/\Hid (Keep w1 wr))
 case atStart=>exact⟨0,Nat.zero_le _,rfl,rfl,i2.out,hR2.out,K2.out⟩
 case round =>
  clear i2 hR2 K2;obtain⟨j,hj,rfl,rfl,IR,RR,KR⟩:=hrel
  by_cases hlt:j<n
  ·obtain⟨g1,cap1,ev,_⟩:=RR.out.row.form (by omega)
   simp only[Value.slice.injEq] at ev;obtain⟨rfl,_,rfl⟩:=ev;have q1:=zar g1 0 n c j hlt;have V:=zcg RR.out.row hlt;rw[Nat.zero_add] at q1 V;have hnew:Hid (∀ z∈TT j,z.k≠(S j).k):=fun z hz=>by
    obtain⟨t,ht,rfl⟩:=ttM.out j z hz;exact zsl ku.out ht hlt
   obtain⟨x,hx⟩:=Zn (S j);have tS:=Zq (ttS.out j);rw[<- hx] at V tS hnew;replace hx:=Zq hx;have x0:=V.e0;have x1:=V.e1;have x2:=V.e2;have x3:=V.e3;have x4:=V.e4;have x5:=V.e5;have x6:=V.e6;have x7:=V.e7;have x8:=V.e8;clear V;have k6:=fun o=>Zq (KR.out.alloc o)
   have R6:=fun o=>Zq (RR.out.keep (Keep.one wr o))
   have I6:=fun o:Obj=>Zq (IR.out.of (w':=wr.alloc o) (Below.block (Keep.one wr o) _ IR.out.lt))
   by_cases h2:x.h=2
   ·have b2:(x.h != 2)=false:=by simp[h2]
    have tS2:Hid (TT (j+1)=TT j):=by show _=_;rw[tS.out,if_neg (by unfold hdB zdm;simp[h2])]
    replace h2:=Zq h2;clear tS;go_wp2;go_roundg (n - (j+1))
    case measure=>omega
    case rel=>exact⟨j+1,hlt,rfl,by go_num,by rw[tS2.out];exact(I6 _).out,(R6 _).out,(k6 _).out⟩
   ·have b2:(x.h != 2)=true:=by simp[h2]
    have tS2:Hid (TT (j+1)=TT j++[x]):=by show _=_;rw[tS.out,if_pos (by unfold hdB zdm;simp[h2])]
    replace h2:=Zq h2;clear tS
    obtain⟨o,ho,hu⟩:=MV.put_new Tryz.underlying112 Tryz.underlying3 IR.out x.k (.slice x.A x.m x.c) (by
     rw[agi];intro hm;obtain⟨z,hz,e⟩:=List.mem_map.1 hm
     exact hnew.out z hz e)
    have hu1:=fun o':Obj=>hu (wr.alloc o') (Below.block (Keep.one wr o') _ IR.out.lt)
    have F8:Hid (∀ W':World,Keep wr W'->MV.Is (setBlock W' b o) b (hvL (TT (j+1)))/\zas (setBlock W' b o) W.heap.size (.slice (some ⟨g1,0,none⟩) n c) n S/\Keep w1 (setBlock W' b o)):=fun W' k'=>by
     have hbl:b<W'.heap.size:=Nat.lt_of_lt_of_le IR.out.lt k'.size;have f:Fr (·=b) W' (setBlock W' b o):=Fr.put (D:=(·=b)) (Fr.refl _ W') (by left;rfl) o
     refine⟨⟨o,MV.heap_setBlock hbl,?_⟩,zvf (RR.out.keep k') f sW.out,Fr.low (KR.out.trans k') f fun i hi=>by rw[hi,hb.out];exact Nat.le_refl _⟩
     rw[tS2.out];unfold hvL at ho ⊢;rw[List.map_append];exact ho
    replace ho:=Zq ho;replace hu:=Zq hu;go_wp2;go_roundg (n - (j+1))
    case measure=>omega
    case rel=>exact⟨j+1,hlt,rfl,by go_num,(F8.out _ (Keep.one _ _)).1,(F8.out _ (Keep.one _ _)).2.1,(F8.out _ (Keep.one _ _)).2.2⟩
  ·obtain rfl:j=n:=by omega
   go_wp2;go_ret
   refine⟨b,TT j,rfl,Nat.le_of_eq hb.out.symm,IR.out,ttN.out,fun y hy=>?_,KR.out⟩
   obtain⟨t,ht,rfl⟩:=ttM.out j y hy;exact⟨zbx (RR.out.own t ht) kW.out.size,RR.out.ok t ht⟩
end
end Go.Proofs.YtcogiogjpbkeaaaGreatDoor.T18
namespace Go.Proofs.YtcogiogjpbkeaaaGreatDoor.T15
open Go.RowKit Go.Sort Go.Lib V12 T13 T14
set_option maxRecDepth 100000 in
set_option maxHeartbeats 4000000 in
theorem aie(p q:zaa)(nd:Int)(w:World):Calls Tryz.prog 155 #[p.val,q.val,.int .i64 nd] w fun e w'=>e=.returned (.bool (zcj p nd q))/\Keep w w':=by
 have T:=two w p q;have KW:=Zq T.k;have P0:=zae T.b0;have Q0:=zae T.b1;have p0:=P0.e0;have p1:=P0.e1;have q0:=Q0.e0;have q1:=Q0.e1;have q6:=Q0.e6;have q7:=Q0.e7;clear P0 Q0 T;unfold zac at p0 p1 q0 q1 q6 q7;unfold zaa.val
 by_cases h1:q.k=p.k
 ·have e:zcj p nd q=false:=decide_eq_false fun h=>h.1 h1
  have b1:(q.k != p.k)=false:=by simp[h1]
  rw[e];replace h1:=Zq h1
  go_enter Tryz.func155,Tryz.ntmps155
  go_wp2;go_ret
  exact⟨rfl,KW.out⟩
 ·have b1:(q.k != p.k)=true:=by simp[h1]
  by_cases h2:q.h=2
  ·have b2:(q.h == 2)=true:=by simp[h2]
   by_cases h3:q.d=nd
   ·have b3:(q.d == nd)=true:=by simp[h3]
    have e:zcj p nd q=decide (p.p<=q.p):=by
     unfold zcj;rw[decide_eq_decide];exact⟨fun h=>h.2.2.2,fun h=>⟨h1,h2,h3,h⟩⟩
    rw[e];replace h1:=Zq h1;replace h2:=Zq h2;replace h3:=Zq h3
    go_enter Tryz.func155,Tryz.ntmps155
    go_wp2;go_ret
    exact⟨rfl,KW.out⟩
   ·have b3:(q.d == nd)=false:=by simp[h3]
    have e:zcj p nd q=false:=decide_eq_false fun h=>h3 h.2.2.1
    rw[e];replace h1:=Zq h1;replace h2:=Zq h2;replace h3:=Zq h3
    go_enter Tryz.func155,Tryz.ntmps155
    go_wp2;go_ret
    exact⟨rfl,KW.out⟩
  ·have b2:(q.h == 2)=false:=by simp[h2]
   have e:zcj p nd q=false:=decide_eq_false fun h=>h2 h.2.1
   rw[e];replace h1:=Zq h1;replace h2:=Zq h2
   go_enter Tryz.func155,Tryz.ntmps155
   go_wp2;go_ret
   exact⟨rfl,KW.out⟩
set_option maxHeartbeats 1000000 in
theorem abw(p x:zaa)(nd:Int)(bp bn:Nat)(W:World)(cp:W.heap[bp]?=some (.cells (zac p) 26 (0,0)))(cn:W.cell? ⟨bn,0,none⟩=some (.int .i64 nd)):
  Calls Tryz.prog 154 #[x.val,.pointer (some ⟨bp,0,none⟩),.pointer (some ⟨bn,0,none⟩)] W fun e w'=>e=.returned (.bool (zcj p nd x))/\Keep W w':=by
 have k1:=Keep.one W (.cells (zac x) 26);have C:=zae (Keep.block k1 cp);have X:=zae (heap_alloc_new W (.cells (zac x) 26));have n0:=k1.cell cn;have cS:=Zq (aie p x nd (W.alloc (.cells (zac x) 26)));have c0:=C.e0;have c1:=C.e1;have c2:=C.e2;have c3:=C.e3;have c4:=C.e4;have c5:=C.e5;have c6:=C.e6;have c7:=C.e7;have c8:=C.e8;have x0:=X.e0;have x1:=X.e1;have x2:=X.e2;have x3:=X.e3;have x4:=X.e4;have x5:=X.e5;have x6:=X.e6;have x7:=X.e7;have x8:=X.e8;clear C X cp cn;replace k1:=Zq k1;unfold zac at *;unfold zaa.val at *
 go_enter Tryz.func154,Tryz.ntmps154
 go_wp2_with fail;refine cS.out.mono ?_;rintro e w2 ⟨rfl,k2⟩;replace k2:=Zq k2;go_wp2;go_ret
 exact⟨rfl,k1.out.trans k2.out⟩
set_option maxHeartbeats 1000000 in
theorem zui(x:zaa)(bk:Nat){kf:Nat}{caps:Array Value}{f:zaa->Bool}(en:∀ args w,(callFunc kf args).run Tryz.prog w=.ok (.enter kf args) w)(W:World)(ck:W.cell? ⟨bk,0,none⟩=some (.func (.func kf) #[] caps))
  (hk:∀ W',Keep W W'->Calls Tryz.prog kf (#[x.val]++caps) W' fun e W''=>e=.returned (.bool (f x))/\Keep W' W'') :
  Calls Tryz.prog 163 #[x.val,.pointer (some ⟨bk,0,none⟩)] W fun e w'=>e=.returned (.bool (!f x))/\Keep W w':=by
 have k1:=Keep.one W (.cells (zac x) 26);have X:=zae (heap_alloc_new W (.cells (zac x) 26));have n0:=k1.cell ck;have cK:=Zq (hk _ k1);have x0:=X.e0;have x1:=X.e1;have x2:=X.e2;have x3:=X.e3;have x4:=X.e4;have x5:=X.e5;have x6:=X.e6;have x7:=X.e7;have x8:=X.e8;clear X ck hk;replace k1:=Zq k1;obtain⟨r,hr⟩:=Zn (f x);rw[<- hr] at cK ⊢;replace hr:=Zq hr;unfold zac at *;unfold zaa.val at *
 go_enter Tryz.func163,Tryz.ntmps163
 go_wp2_with fail;refine cK.out.mono ?_;rintro e w2 ⟨rfl,k2⟩;replace k2:=Zq k2;go_wp2;go_ret
 exact⟨rfl,k1.out.trans k2.out⟩
theorem zxy{w:World}{base n:Nat}{v:Value}{Q:Nat->zaa}(hR:zas w base v n Q)(hn:n<=1048576){kf:Nat}{caps:Array Value}{f:zaa->Bool}(K:Df w kf caps v.ownBlock n Q f):
  Calls Tryz.prog 153 #[v,.func (.func kf) #[] caps] w fun e w'=>∃ v' S,e=.returned v'/\zas w' base v' ((T13.lst Q n).filter f).length S/\T13.lst S ((T13.lst Q n).filter f).length=(T13.lst Q n).filter f/\Fr (fun k=>v.ownBlock=some k) w w':=by
 have bK:Boxed (w.alloc (.cells #[.func (.func kf) #[] caps] 73)) w.heap.size 73 (.func (.func kf) #[] caps):=Boxed.new _ _ _;have k1:Hid (Keep w (w.alloc (.cells #[.func (.func kf) #[] caps] 73))):=Keep.one _ _
 have D:Df (w.alloc (.cells #[.func (.func kf) #[] caps] 73)) 163 #[.pointer (some ⟨w.heap.size,0,none⟩)] v.ownBlock n Q fun x=>!f x:=⟨enters_of Tryz.func163 (by kernel_rfl) rfl,fun W' hW x hx=>by
  refine zui x w.heap.size K.en W' ?_ fun W'' k2=>K.k W'' (fun i hi hn=>?_) x hx
  ·rw[World.cell?_of_block (w:=w.alloc (.cells #[.func (.func kf) #[] caps] 73)) (hW w.heap.size (by rw[World.size_alloc];omega) fun e=>by have:=(hR.row.lt _ e).2;omega)]
   exact bK.cell
  ·have h1:=hW i (by rw[World.size_alloc];omega) hn
   have h2:=Below.block k1.out i hi;have hlt:i<W'.heap.size:=by
    have h3:i<(w.alloc (.cells #[.func (.func kf) #[] caps] 73)).heap.size:=by rw[World.size_alloc];omega
    rw[Array.getElem?_eq_getElem h3] at h1;exact(Array.getElem?_eq_some_iff.1 h1).1
   exact(Below.block k2 i hlt).trans (h1.trans h2)⟩
 have cD:=Zq (zxc (hR.keep k1.out) hn D);have hkf:=hR;clear D K;have e2:((T13.lst Q n).filter fun x=>!(!f x))=(T13.lst Q n).filter f:=List.filter_congr fun x _=>Bool.not_not _
 rw[e2] at cD;replace hR:=Zq hR;clear hkf e2 bK
 go_enter Tryz.func153,Tryz.ntmps153
 go_wp2_with fail;refine cD.out.mono ?_;rintro e w2 ⟨v',S,rfl,h1,h2,h3⟩;have fin:Hid (zas w2 base v' ((T13.lst Q n).filter f).length S/\T13.lst S ((T13.lst Q n).filter f).length=(T13.lst Q n).filter f/\Fr (fun k=>v.ownBlock=some k) w w2):=⟨h1,h2,(Fr.of k1.out).same h3⟩
 clear h1 h2 h3;go_wp2;go_ret
 exact⟨v',S,rfl,fin.out⟩
theorem zuj{w0 w:World}{n:Nat}{v:Value}{Q:Nat->zaa}(k0:Keep w0 w)(hR:zas w w0.heap.size v n Q)(hn:n<=1048576){L:List zaa}(hL:(T13.lst Q n).map nm=L){kf:Nat}{caps:Array Value}{f:zaa->Bool}(hf:∀ x,f (nm x)=f x)(K:Df w kf caps v.ownBlock n Q f):
  Calls Tryz.prog 153 #[v,.func (.func kf) #[] caps] w fun e w'=>∃ v' S,e=.returned v'/\zas w' w0.heap.size v' (L.filter f).length S/\(T13.lst S (L.filter f).length).map nm=L.filter f/\Keep w0 w':=by
 refine(zxy hR hn K).mono ?_;rintro e w' ⟨v',S,h1,h2,h3,h4⟩;have e1:L.filter f=((T13.lst Q n).filter f).map nm:=by
  rw[<- hL,List.filter_map];exact congrArg (List.map nm) (List.filter_congr fun x _=>hf x)
 have e2:(L.filter f).length=((T13.lst Q n).filter f).length:=by rw[e1,List.length_map]
 rw[e2];exact⟨v',S,h1,h2,by rw[h3];exact e1.symm,Fr.low k0 h4 fun i hi=>(hR.row.lt i hi).1⟩
theorem aif(p:zaa)(nd:Int)(L:List zaa):(L.filter (onB nd)).filter (zcj p nd)=zbt p nd L:=by
 unfold zbt;rw[List.filter_filter];refine List.filter_congr fun x _=>?_
 cases h:zcj p nd x with
 | false=>rfl
 | true =>
   have:=of_decide_eq_true h;exact decide_eq_true ⟨this.2.2.1,by omega,by omega⟩
section
variable{CS:zbn}{w w1:World}{d q:Nat}{M:List NV}{L:List zaa}{X:Nat->Prop}
set_option maxHeartbeats 4000000 in
theorem ada(C:Con CS)(h:CS w d q M L X w1)(p:zaa)(nd:Int)(hd:I64 nd)(hl:L.length<=100):
  Calls Tryz.prog 145 #[.pointer (some ⟨q,0,none⟩),p.val,.int .i64 nd] w1 fun e w'=>∃ v S,e=.returned v/\zas w' w1.heap.size v (zbt p nd L).length S/\(T13.lst S (zbt p nd L).length).map nm=zbt p nd L/\Keep w1 w':=by
 obtain⟨W,hW⟩:=Zn ((w1.alloc (.cells (zac p) 26)).alloc (.cells #[.int .i64 nd] 3));have s0:(w1.alloc (.cells (zac p) 26)).heap.size=w1.heap.size+1:=World.size_alloc _ _;have kW:Hid (Keep w1 W):=by rw[hW];exact(Keep.one _ _).alloc _
 have bP:Hid (W.heap[w1.heap.size]?=some (.cells (zac p) 26 (0,0))):=by rw[hW];exact(Keep.one _ _).block (heap_alloc_new _ _)
 have bN:Hid (W.heap[w1.heap.size+1]?=some (.cells #[.int .i64 nd] 3 (0,0))):=by rw[hW,<- s0];exact heap_alloc_new _ _
 have n0:W.cell? ⟨w1.heap.size+1,0,none⟩=some (.int .i64 nd):=by rw[cell_of_row W _ _ _ _ _ bN.out];rfl
 have nN:=Zq n0;have cO:=Zq (C.on nd (C.keep h kW.out) hd hl);have cF:Hid (∀ w2 v S,zas w2 W.heap.size v (L.filter (onB nd)).length S->(T13.lst S (L.filter (onB nd)).length).map nm=L.filter (onB nd)->Keep W w2->Calls Tryz.prog 153 #[v,.func (.func 154) #[] #[.pointer (some ⟨w1.heap.size,0,none⟩),.pointer (some ⟨w1.heap.size+1,0,none⟩)]] w2 fun e w'=>∃ v' S',e=.returned v'/\zas w' w1.heap.size v' (zbt p nd L).length S'/\(T13.lst S' (zbt p nd L).length).map nm=zbt p nd L/\Keep w1 w'):=fun w2 v S hR hL k2=>by
  have lw:w1.heap.size+1<W.heap.size:=lt_of_block bN.out;refine(zuj k2 hR (Nat.le_trans (Nat.le_trans (List.length_filter_le _ _) hl) (by omega)) hL (f:=zcj p nd) (fun _=>rfl) ⟨enters_of Tryz.func154 (by kernel_rfl) rfl,fun W' hW' x _=>?_⟩).mono ?_
  ·have off:∀ i,i<W.heap.size->W'.heap[i]?=W.heap[i]?:=fun i hi=>(hW' i (Nat.lt_of_lt_of_le hi k2.size) fun e=>by have:=(hR.row.lt i e).1;omega).trans (Below.block k2 i hi)
   exact abw p x nd _ _ W' ((off _ (by omega)).trans bP.out) ((World.cell?_of_block (w:=W) (off _ lw)).trans nN.out)
  ·rintro e w' ⟨v',S',h1,h2,h3,h4⟩
   rw[aif] at h2 h3;exact⟨v',S',h1,h2.base kW.out.size,h3,kW.out.trans h4⟩
 clear bP bN nN;replace s0:=Zq s0;replace h:=Zq h;rw[hW] at n0;unfold zac at hW n0;unfold zaa.val
 go_enter Tryz.func145,Tryz.ntmps145
 go_wp2_with fail;rw[<- hW];replace hW:=Zq hW;clear n0;refine cO.out.mono ?_;rintro e w2 ⟨v,S,rfl,hR,hL,k2⟩;have cF2:=Zq (cF.out w2 v S hR hL k2);clear cF cO hR hL;replace k2:=Zq k2;go_wp2_with fail;refine cF2.out.mono ?_;rintro e w3 ⟨v',S',rfl,h1,h2,h3⟩;replace h1:=Zq h1;replace h2:=Zq h2;replace h3:=Zq h3;go_wp2;go_ret
 exact⟨v',S',rfl,h1.out,h2.out,h3.out⟩
def ownB(L:List zaa)(id:Int):Bool:=decide ((getL L id).h=2)
end
end Go.Proofs.YtcogiogjpbkeaaaGreatDoor.T15
namespace Go.Proofs.YtcogiogjpbkeaaaGreatDoor.T15
open Go.RowKit Go.Sort Go.Lib V12 T13
theorem aau{w0 w1 w2:World}{base n z:Nat}{e:TypeId}{v:Value}{xs:List Value}(k:Keep w0 w1)(h:w1.ownsRow base e z v n xs)(hb:w0.heap.size<=base)(hg:w1.grownBy w2 v.ownBlock):Keep w0 w2 :=
 Fr.low k (Fr.grown (D:=fun i=>v.ownBlock=some i) hg fun _ e=>Or.inl e) fun i hi=>Nat.le_trans hb (h.lt i hi).1
end Go.Proofs.YtcogiogjpbkeaaaGreatDoor.T15
