/-
  The store's iterator: it yields the pods that a function keeps, in their order. No condition.
  The store's filters and what its lists begin with. No condition.
  A map from pairs of numbers to numbers: what a look-up answers and what an insert leaves. No condition.
  The program's table of changes: whatever order its map is filled in, it says what the table says. No condition.
-/
import Derived.Test.YtcogiogjpbkeaaaGreatDoorJ0
import Derived.Test.YtcogiogjpbkeaaaGreatDoorJ26
import Derived.Laws.StructEq
namespace Go.Proofs.YtcogiogjpbkeaaaGreatDoor.T13
open Go.RowKit Go.Sort Go.Lib Go.Shelf V12
def But(bl N0:Nat)(W W':World):Prop:=∀ k,k<N0->k≠bl->W'.heap[k]?=W.heap[k]?
theorem But.refl(bl N0:Nat)(W:World):But bl N0 W W:=fun _ _ _=>rfl
theorem But.trans{bl N0:Nat}{a b c:World}(h:But bl N0 a b)(k:But bl N0 b c):But bl N0 a c:=fun i hi hne=>(k i hi hne).trans (h i hi hne)
theorem But.keep{bl N0:Nat}{a b c:World}(h:But bl N0 a b)(hs:N0<=b.heap.size)(k:Keep b c):But bl N0 a c:=h.trans fun i hi _=>Below.block k i (Nat.lt_of_lt_of_le hi hs)
theorem But.cell{bl N0:Nat}{a b:World}(h:But bl N0 a b){p:Addr}{v:Value}(hc:a.cell? p=some v)(h1:p.block<N0)(h2:p.block≠bl):b.cell? p=some v:=(World.cell?_of_block (w:=a) (h p.block h1 h2)).trans hc
theorem But.cel9{bl N0:Nat}{a b:World}(h:But bl N0 a b){g o:Nat}{x:zaa}(hc:zcr a g o x)(h1:g<N0)(h2:g≠bl):zcr b g o x :=
 ⟨h.cell hc.e0 h1 h2,h.cell hc.e1 h1 h2,h.cell hc.e2 h1 h2,h.cell hc.e3 h1 h2,h.cell hc.e4 h1 h2,h.cell hc.e5 h1 h2,h.cell hc.e6 h1 h2,h.cell hc.e7 h1 h2,h.cell hc.e8 h1 h2⟩
abbrev PD(P:Nat->zaa)(n:Nat):={ x:zaa // x∈lst P n }
structure ztp(W0:World)(bl N0 b1 b2 q:Nat)(kf:Nat)(caps:Array Value)(A:Option Addr)(c n:Nat)(P:Nat->zaa)(f:zaa->Bool):Prop where
 b1:W0.cell? ⟨b1,0,none⟩=some (.pointer (some ⟨q,0,none⟩))/\b1<N0/\b1≠bl
 b2:W0.cell? ⟨b2,0,none⟩=some (.func (.func kf) #[] caps)/\b2<N0/\b2≠bl
 q:W0.cell? ⟨q,0,none⟩=some (.slice A n c)/\q<N0/\q≠bl
 r:∀ j,j<n->∃ g,A=some ⟨g,0,none⟩/\zcr W0 g (0+j * 9) (P j)/\g<N0/\g≠bl
 k:∀ W',But bl N0 W0 W'->N0<=W'.heap.size->∀ x∈lst P n,Calls Tryz.prog kf (#[x.val]++caps) W' fun e W''=>e=.returned (.bool (f x))/\Keep W' W''
 n:n<=1000
 en:∀ args w,(callFunc kf args).run Tryz.prog w=.ok (.enter kf args) w
theorem agc{P:Nat->zaa}{f:zaa->Bool}{n j:Nat}{pre:List (PD P n)}(h:pre.map (·.1)=(lst P j).filter f):pre.length<=j:=by
 have:=congrArg List.length h;rw[List.length_map] at this;have h2:=List.length_filter_le f (lst P j);rw[lst_len] at h2;omega
theorem age{P:Nat->zaa}{f:zaa->Bool}{n j:Nat}{pre:List (PD P n)}(h:pre.map (·.1)=(lst P j).filter f)(x:PD P n)(hx:x.1=P j)(hf:f (P j)=true):(pre++[x]).map (·.1)=(lst P (j+1)).filter f:=by
 rw[List.map_append,h,lst_succ,List.filter_append,List.map_singleton,hx,List.filter_cons,if_pos hf,List.filter_nil]
theorem ajx{P:Nat->zaa}{f:zaa->Bool}{n j:Nat}{pre:List (PD P n)}(h:pre.map (·.1)=(lst P j).filter f)(hf:f (P j)=false):pre.map (·.1)=(lst P (j+1)).filter f:=by
 rw[h,lst_succ,List.filter_append,List.filter_cons,if_neg (by rw[hf];decide),List.filter_nil,List.append_nil]
attribute [local go_sem] Oper.semAt_some
set_option maxRecDepth 100000 in
set_option maxHeartbeats 4000000 in
theorem aal(u:Nat)(hu:1<=u)(l:Nat){W0:World}{bl N0 b1 b2 q kf:Nat}{caps:Array Value}{A:Option Addr}{c n:Nat}{P:Nat->zaa}{f:zaa->Bool}(E:ztp W0 bl N0 b1 b2 q kf caps A c n P f)(J Jx:List (PD P n)->World->Prop)
  (hY:∀ pre x W,J pre W->pre.length<n->YieldAt Fence.wide (u - 1) Tryz.prog l #[x.1.val] W fun e W' =>
   (e=.returned (.bool true)/\J (pre++[x]) W'/\But bl N0 W W'/\W.heap.size<=W'.heap.size)\/(e=.returned (.bool false)/\Jx (pre++[x]) W'))
  (W:World) (hJ:AbidesFrom W.heap.size J) (hW:But bl N0 W0 W) (hs:N0<=W.heap.size) (h0:J [] W) :
  CallsIn Fence.wide u Tryz.prog 150 #[.func (.yield l) #[] #[],.pointer (some ⟨b1,0,none⟩),.pointer (some ⟨b2,0,none⟩)] W fun e W'=>(∃ v,e=.returned v) /\
   ((∃ ys:List (PD P n),ys.map (·.1)=(lst P n).filter f/\J ys W')\/(∃ pre:List (PD P n),True/\Jx pre W')):=by
 have c1:=hW.cell E.b1.1 E.b1.2.1 E.b1.2.2;have cq:=hW.cell E.q.1 E.q.2.1 E.q.2.2;have hn:=E.n;replace E:=Zq E;refine callsIn_of_wp Tryz.func150 rfl trivial ?_ rfl;simp only[Tryz.ntmps150,List.size_toArray,List.length_cons,List.length_nil,Nat.reduceAdd,Nat.reduceSub,Array.replicate_succ,Array.replicate_zero,List.push_toArray,List.append_toArray,List.nil_append,List.cons_append]
 gi_wp2
 gi_loopw [13] (fun i wr=>∃ (j:Nat) (pre:List (PD P n)),j<=n/\i=.int .i64 j/\pre.map (·.1)=(lst P j).filter f/\J pre wr/\But bl N0 W0 wr/\W.heap.size<=wr.heap.size)
  (fun i _=>n - (intOf i).toNat)
 case atStart=>exact⟨0,[],Nat.zero_le _,rfl,rfl,h0,hW,Nat.le_refl _⟩
 case round =>
  obtain⟨j,pre,hj,rfl,hpre,hJs,hB,hsz⟩:=hrel
  by_cases hlt:j<n
  ·obtain⟨g,rfl,X,g1,g2⟩:=E.out.r j hlt
   have X:=hB.cel9 X g1 g2;have q1:=zar g 0 n c j hlt;obtain⟨x0,x1,x2,x3,x4,x5,x6,x7,x8⟩:=X;rw[Nat.zero_add] at x0 x1 x2 x3 x4 x5 x6 x7 x8 q1;have c2:=hB.cell E.out.b2.1 E.out.b2.2.1 E.out.b2.2.2;obtain⟨x,hx⟩:=Zn (P j);rw[<- hx] at x0 x1 x2 x3 x4 x5 x6 x7 x8;have hxm:x∈lst P n:=by rw[hx];exact lst_mem.2 ⟨j,hlt,rfl⟩
   replace hx:=Zq hx;have c2a:=(Keep.one wr (.cells #[.int .i64 x.k,.int .i64 x.p,.bool x.f,.int .i64 x.g,.slice x.A x.m x.c,.int .i64 x.a,.int .i64 x.h,.int .i64 x.d,.int .i64 x.t] 26)).cell c2;have cel:=zcr.new wr x 26 _ rfl;have cK:=E.out.k (wr.alloc (.cells #[.int .i64 x.k,.int .i64 x.p,.bool x.f,.int .i64 x.g,.slice x.A x.m x.c,.int .i64 x.a,.int .i64 x.h,.int .i64 x.d,.int .i64 x.t] 26)) (hB.keep (Nat.le_trans hs hsz) (Keep.one _ _)) (by rw[World.size_alloc];omega) x hxm
   unfold zaa.val at cK;replace cK:=Zq cK;replace cel:=Zq cel;replace hB:=Zq hB;have en:=E.out.en;have szA:(wr.alloc (.cells #[.int .i64 x.k,.int .i64 x.p,.bool x.f,.int .i64 x.g,.slice x.A x.m x.c,.int .i64 x.a,.int .i64 x.h,.int .i64 x.d,.int .i64 x.t] 26)).heap.size=wr.heap.size+1:=World.size_alloc _ _;replace szA:=Zq szA;replace hpre:=Zq hpre;cases hf:f x with
   | false =>
     rw[hf] at cK
     gi_wp2_with fail
     refine⟨trivial,?_⟩;refine(callsIn_wide.2 cK.out).mono ?_;rintro e w3 ⟨rfl,k3⟩;have B3:But bl N0 W0 w3:=(hB.out.keep (Nat.le_trans hs hsz) (Keep.one _ _)).keep (by rw[szA.out];omega) k3
     have J3:J pre w3:=hJ pre wr w3 none hJs ((Keep.one _ _).trans k3).grown (fun r e=>by cases e)
     have s3:W.heap.size<=w3.heap.size:=Nat.le_trans hsz ((Keep.one wr _).trans k3).size;clear c2 c2a cel k3 x0 x1 x2 x3 x4 x5 x6 x7 x8 q1 cK
     gi_wp2
     refine⟨fun _ h=>(by cases h),?_⟩
     gi_wp2
     go_roundw
     case rel=>exact⟨j+1,pre,by omega,by simp,ajx hpre.out (by rw[<- hx.out];exact hf),J3,B3,s3⟩
     case measure=>simp[intOf];omega
   | true =>
     rw[hf] at cK
     gi_wp2_with fail
     refine⟨trivial,?_⟩;refine(callsIn_wide.2 cK.out).mono ?_;rintro e w3 ⟨rfl,k3⟩;have B3:But bl N0 W0 w3:=(hB.out.keep (Nat.le_trans hs hsz) (Keep.one _ _)).keep (by rw[szA.out];omega) k3
     have J3:J pre w3:=hJ pre wr w3 none hJs ((Keep.one _ _).trans k3).grown (fun r e=>by cases e)
     have s3:W.heap.size<=w3.heap.size:=Nat.le_trans hsz ((Keep.one wr _).trans k3).size;obtain⟨fn,tmps,assign,body,hy,hR⟩:=hY pre ⟨x,hxm⟩ w3 J3 (by have:=agc hpre.out;omega)
     dsimp only at hy
     unfold zaa.val at hy;obtain⟨y0,y1,y2,y3,y4,y5,y6,y7,y8⟩:=cel.out.keep k3;rw[Nat.zero_add] at y1 y2 y3 y4 y5 y6 y7 y8;replace B3:=Zq B3;replace J3:=Zq J3;replace s3:=Zq s3;clear c2 c2a cel k3 x0 x1 x2 x3 x4 x5 x6 x7 x8 q1 cK
     gi_wp2
     refine hR.mono ?_;rintro e W4 (⟨rfl,hJ4,hB4,hs4⟩ | ⟨rfl,hJx4⟩)
     ·gi_wp2
      go_roundw
      case rel=>exact⟨j+1,pre++[⟨x,hxm⟩],by omega,by simp,age hpre.out ⟨x,hxm⟩ hx.out (by rw[<- hx.out];exact hf),hJ4,B3.out.trans hB4,Nat.le_trans s3.out hs4⟩
      case measure=>simp[intOf];omega
     ·gi_wp2
      refine bodyPost_ret (results_none rfl _ _ _) rfl ?_;exact⟨⟨_,rfl⟩,.inr ⟨_,trivial,hJx4⟩⟩
  ·obtain rfl:j=n:=by omega
   gi_wp2
   go_end0
   exact⟨⟨_,rfl⟩,.inl ⟨pre,hpre,hJs⟩⟩
theorem zuf(u:Nat)(hu:1<=u){W0:World}{bl b1 b2 q kf:Nat}{caps:Array Value}{A:Option Addr}{c n:Nat}{P:Nat->zaa}{f:zaa->Bool}(E:ztp W0 bl W0.heap.size b1 b2 q kf caps A c n P f):
  SeqStopsK Fence.wide u Tryz.prog 150 #[.pointer (some ⟨b1,0,none⟩),.pointer (some ⟨b2,0,none⟩)] (fun x:PD P n=>#[x.1.val]) (fun W W'=>But bl W0.heap.size W W'/\W.heap.size<=W'.heap.size) (fun ys=>ys.map (·.1)=(lst P n).filter f) (fun _=>True) n W0:=fun l J Jx W hW hJ _ hY h0=>by
 refine aal u hu l E J Jx (fun pre x W1 h1 h2=>?_) W hJ (fun k hk _=>Below.block hW k hk) hW.size h0
 exact hY pre x W1 h1 h2
end Go.Proofs.YtcogiogjpbkeaaaGreatDoor.T13
namespace Go.Proofs.YtcogiogjpbkeaaaGreatDoor.T13
open Go.RowKit Go.Sort Go.Lib Go.Shelf V12
def placed(p:Int):Bool:=decide (2<=p/\p<=4)
theorem zzp(p:Int)(w:World):Calls Tryz.prog 134 #[.int .i64 p] w fun e w'=>(∃ a b,e=.returned (.tuple #[.bool a,.bool b,.bool (placed p)]))/\w=w':=by
 by_cases h2:p=2
 ·subst h2
  go_enter Tryz.func134,Tryz.ntmps134
  go_wp2;go_ret3
  exact⟨⟨_,_,rfl⟩,rfl⟩
 by_cases h1:p=1
 ·subst h1
  go_enter Tryz.func134,Tryz.ntmps134
  go_wp2;go_ret3
  exact⟨⟨_,_,rfl⟩,rfl⟩
 by_cases h3:p=3
 ·subst h3
  go_enter Tryz.func134,Tryz.ntmps134
  go_wp2;go_ret3
  exact⟨⟨_,_,rfl⟩,rfl⟩
 by_cases h4:p=4
 ·subst h4
  go_enter Tryz.func134,Tryz.ntmps134
  go_wp2;go_ret3
  exact⟨⟨_,_,rfl⟩,rfl⟩
 have e3:placed p=false:=decide_eq_false (by omega)
 rw[e3]
 go_enter Tryz.func134,Tryz.ntmps134
 go_wp2;go_ret3
 exact⟨⟨_,_,rfl⟩,rfl⟩
theorem zyq(p:Int)(w:World):Calls Tryz.prog 112 #[.int .i64 p] w fun e w'=>e=.returned (.bool (placed p))/\w=w':=by
 have hT:=zzp p w;generalize placed p=z at *
 go_enter Tryz.func112,Tryz.ntmps112
 go_wp2_with fail;refine hT.mono ?_;rintro e w1 ⟨⟨a,b,rfl⟩,rfl⟩;go_wp2;go_ret
 exact⟨rfl,rfl⟩
set_option maxHeartbeats 1000000 in
theorem akx(x:zaa)(b:Nat)(nd:Int)(w:World)(hc:w.cell? ⟨b,0,none⟩=some (.int .i64 nd)):Calls Tryz.prog 111 #[x.val,.pointer (some ⟨b,0,none⟩)] w fun e w'=>e=.returned (.bool (onB nd x))/\Keep w w':=by
 have c1:=(Keep.one w (.cells (zac x) 26)).cell hc;have hP:=Zq (fun W=>zyq x.h W)
 unfold zac at c1;unfold zaa.val
 by_cases h:x.d=nd
 ·have e:onB nd x=placed x.h:=by unfold onB placed;simp[h]
  have hd:decide (x.d=nd)=true:=decide_eq_true h;rw[e];generalize placed x.h=z at *;replace h:=Zq h;replace e:=Zq e
  go_enter Tryz.func111,Tryz.ntmps111
  go_wp2_with fail;refine(hP.out _).mono ?_;rintro e w1 ⟨rfl,rfl⟩;go_wp2;go_ret
  exact⟨rfl,Keep.one _ _⟩
 ·have e:onB nd x=false:=decide_eq_false fun h2=>h h2.1
  rw[e]
  go_enter Tryz.func111,Tryz.ntmps111
  go_wp2;go_ret
  exact⟨rfl,Keep.one _ _⟩
theorem hmf(fn:Fn)(first cap:Array Value)(w:World):(Instr.makeFunc fn first cap).run Tryz.prog w=.ok (.func fn first cap) w:=rfl
theorem zlv(P:Option Addr)(F:Value)(w:World)(hF:∃ kf caps,F=.func (.func kf) #[] caps):Calls Tryz.prog 139 #[.pointer P,F] w fun e w'=>e=.returned (.func (.func 150) #[] #[.pointer (some ⟨w.heap.size,0,none⟩),.pointer (some ⟨w.heap.size+1,0,none⟩)])/\w'=(w.alloc (.cells #[.pointer P] 91)).alloc (.cells #[F] 73):=by
 have h1:=hmf;obtain⟨kf,caps,rfl⟩:=hF
 go_enter Tryz.func139,Tryz.ntmps139
 go_wp2;go_ret
 exact⟨rfl,rfl⟩
theorem zas.own'{X Y:World}{base n:Nat}{v:Value}{Q:Nat->zaa}{row:Option Nat}(h:zas X base v n Q)(hg:X.grownBy Y row)(hr:∀ r,row=some r->∃ o:Obj,X.heap[r]?=some o/\o.isCells=false):zas Y base v n Q:=by
 have key:∀ {e:TypeId} {z k:Nat} {u:Value} {xs:List Value},X.ownsRow base e z u k xs->Y.ownsRow base e z u k xs:=fun h=>zao h fun g hg2=>hg.block g (h.lt g hg2).2 fun e=>by
  obtain⟨o,ho,hc⟩:=hr g e.symm;obtain⟨cur,e2⟩:=zfp h hg2;rw[e2] at ho;cases ho
  cases hc
 exact⟨key h.row,fun j hj=>key (h.own j hj),h.ok⟩
end Go.Proofs.YtcogiogjpbkeaaaGreatDoor.T13
namespace Go.Proofs.YtcogiogjpbkeaaaGreatDoor
open Go.RowKit Go.Extern.Stop Go.Stop Go.Extern
open Go.ChangeMaps (setBlock)
def kv(p e:Int):Value:=.agg #[.int .i64 p,.int .i64 e]
set_option maxRecDepth 100000 in
theorem Tryz.eqKey(p e q f:Int)(w:World):(Op.equal 195 (kv p e) (kv q f)).run Tryz.prog w=.ok (decide (p=q/\e=f)) w:=by
 unfold kv;simp only[Op.equal,Op.maxDepth];rw[run_equalIn_agg w 9999 195 _ _ (by kernel_rfl) (by kernel_rfl)]
 have hf:∃ f0 f1:Field,(Tryz.prog.fieldsOf 195).toList=[f0,f1]/\f0.name ≠ "_" /\ f1.name ≠ "_" /\ f0.type=3/\f1.type=3/\f0.offset=0/\f1.offset=1:=⟨_,_,rfl,by decide,by decide,rfl,rfl,rfl,rfl⟩
 obtain⟨f0,f1,hl,n0,n1,t0,t1,o0,o1⟩:=hf;rw[hl];simp[Op.eqFields,n0,n1,t0,t1,o0,o1,go_sem]
 by_cases h:p=q<;>by_cases h':e=f<;>simp[h,h']
theorem Tryz.okKey(b:Bool)(p e:Int)(w:World):(Instr.checkKey b 10000 195 (kv p e)).run Tryz.prog w=.ok () w:=by
 unfold kv;rw[show(10000:Nat)=9999+1 from rfl]
 unfold Instr.checkKey;simp only[Sem.run_bind,run_underlying Tryz.underlying195,Result.andThen_ok];simp[go_sem]
 have h (x:Int) (v:World):(Instr.checkKey b 9999 3 (.int .i64 x)).run Tryz.prog v=.ok () v:=MapKept.run_checkKey Tryz.underlying3 (by simp[MapKept.IsKey]) b 9998
 simp[h,Result.andThen]
def ztq(es:List MapEntry)(l:List (Int × Int × Int)):Prop:=es.map (fun x=>(x.key,x.val))=l.map (fun x=>(kv x.1 x.2.1,Value.int .i64 x.2.2))
def look:List (Int × Int × Int)->Int->Int->Option Int
 | [],_,_=>none
 | x :: r,p,e=>if p=x.1/\e=x.2.1 then some x.2.2 else look r p e
theorem look_mem{p e v:Int}:∀ {l:List (Int × Int × Int)},look l p e=some v->(p,e,v)∈l
 | [],h=>by simp[look] at h
 | x :: r,h=>by
   unfold look at h
   split at h
   ·rename_i hc
    obtain⟨rfl,rfl⟩:=hc;cases h
    exact List.mem_cons_self
   ·exact List.mem_cons_of_mem _ (look_mem h)
theorem look_none{p e:Int}:∀ {l:List (Int × Int × Int)},look l p e=none->∀ v,(p,e,v)∉l
 | [],_,v,hm=>by cases hm
 | x :: r,h,v,hm=>by
   unfold look at h
   split at h
   ·cases h
   ·rename_i hc
    rcases List.mem_cons.1 hm with rfl | hm
    ·exact hc ⟨rfl,rfl⟩
    ·exact look_none h v hm
theorem zmy{p e:Int}{l:List (Int × Int × Int)}(h:∀ v,(p,e,v)∉l):look l p e=none:=by
 cases hl:look l p e with
 | none=>rfl
 | some v=>exact absurd (look_mem hl) (h v)
theorem zvz(p e:Int)(w:World):∀ (l:List (Int × Int × Int)) (es:List MapEntry) (i:Nat),ztq es l ->
  ∃ r,(Instr.findAsking 195 (kv p e) es i).run Tryz.prog w=.ok r w/\r.map (·.2)=(look l p e).map (Value.int .i64)
 | [],es,i,h=>by
   have:es=[]:=by simpa [ztq] using h
   subst this;exact⟨none,by simp[Instr.findAsking],rfl⟩
 | x :: r,[],i,h=>by simp[ztq] at h
 | x :: r,y :: es,i,h=>by
   simp only[ztq,List.map_cons,List.cons.injEq,Prod.mk.injEq] at h;obtain⟨⟨hk,hv⟩,ht⟩:=h;unfold Instr.findAsking look;simp only[Sem.run_bind,hk,Tryz.eqKey,Result.andThen_ok]
   by_cases hc:p=x.1/\e=x.2.1
   ·rw[decide_eq_true hc,if_pos hc]
    exact⟨some (i,y.val),by simp,by simp[hv]⟩
   ·rw[decide_eq_false hc,if_neg hc]
    obtain⟨z,hz,hz'⟩:=zvz p e w r es (i+1) ht;exact⟨z,by simpa using hz,hz'⟩
set_option maxRecDepth 100000 in
theorem zrs(p e:Int)(w:World)(l:List (Int × Int × Int))(es:List MapEntry)(h:ztq es l):
  ∃ r,(Instr.findKey 195 (kv p e) es).run Tryz.prog w=.ok r w/\r.map (·.2)=(look l p e).map (Value.int .i64):=by
 cases es with
 | nil =>
   have:l=[]:=by
    have:=congrArg List.length h
    simpa using this.symm
   subst this;exact⟨none,by simp[Instr.findKey,run_underlying Tryz.underlying195,Instr.findNow],rfl⟩
 | cons y es =>
   obtain⟨r,h1,h2⟩:=zvz p e w l (y :: es) 0 h;refine⟨r,?_,h2⟩;have hn:Instr.findNow (.struct (Tryz.prog.fieldsOf 195)) (kv p e) (y :: es) 0=none:=rfl;simp[Instr.findKey,run_underlying (show Tryz.prog.underlying 195=some (.struct (Tryz.prog.fieldsOf 195)) from rfl),hn,h1]
def zgg(w:World)(B:Nat)(l:List (Int × Int × Int)):Prop:=∃ es clock,w.heap[B]?=some (.map es clock)/\ztq es.toList l
theorem zgg.keep{w w':World}{B:Nat}{l:List (Int × Int × Int)}(h:zgg w B l)(k:Keep w w'):zgg w' B l:=by
 obtain⟨es,clock,hb,he⟩:=h;exact⟨es,clock,k.block hb,he⟩
theorem abe{w:World}{B:Nat}{l:List (Int × Int × Int)}(h:zgg w B l)(p e:Int):
  (Instr.lookup 192 (.map (some B)) (kv p e) true).run Tryz.prog w=.ok (.tuple #[.int .i64 ((look l p e).getD 0),.bool (look l p e).isSome]) w:=by
 obtain⟨es,clock,hb,he⟩:=h;obtain⟨r,h1,h2⟩:=zrs p e w l es.toList he;have hz:(zeroValue 3).run Tryz.prog w=.ok (.int .i64 0) w:=by kernel_rfl
 simp only[Instr.lookup,Sem.run_bind,run_underlying Tryz.underlying192,Result.andThen_ok,MapKept.run_getObj_map hb,Tryz.okKey,h1,Sem.run_pure];cases hl:look l p e with
 | none =>
   rw[hl] at h2;have:r=none:=by cases r<;>simp_all
   subst this;simp[hz]
 | some v =>
   rw[hl] at h2;cases r with
   | none=>simp at h2
   | some y =>
     obtain⟨j,z⟩:=y;have hz:z=.int .i64 v:=by simpa using h2
     subst hz;simp
theorem ahd{w:World}{B:Nat}{l:List (Int × Int × Int)}(h:zgg w B l)(p e v:Int)(hn:look l p e=none):
  ∃ w',(Instr.mapUpdate 192 (.map (some B)) (kv p e) (.int .i64 v)).run Tryz.prog w=.ok () w'/\zgg w' B (l++[(p,e,v)])/\w.grownBy w' (some B):=by
 obtain⟨es,clock,hb,he⟩:=h;obtain⟨r,h1,h2⟩:=zrs p e w l es.toList he;rw[hn] at h2;have:r=none:=by cases r<;>simp_all
 subst this;refine⟨setBlock w B (.map (es.push { key:=kv p e,val:=.int .i64 v,born:=clock }) (clock+1)),?_,⟨_,_,ChangeMaps.heap_setBlock_same hb _,?_⟩,⟨rfl,rfl,rfl,by simp[setBlock],fun i _ hi=>ChangeMaps.heap_setBlock_other hb _ (fun e=>hi (by rw[e]))⟩⟩
 ·simp[Instr.mapUpdate,run_underlying Tryz.underlying192,MapKept.run_getObj_map hb,Tryz.okKey,h1,MapKept.run_setObj_map _ hb,Result.andThen,setBlock]
 ·unfold ztq at he ⊢
  simp[he]
theorem ahc(w:World):zgg (w.alloc (.map #[] 0)) w.heap.size []:=⟨#[],0,(MapKept.heap_alloc w _).1,rfl⟩
end Go.Proofs.YtcogiogjpbkeaaaGreatDoor
namespace Go.Proofs.YtcogiogjpbkeaaaGreatDoor
open Go.RowKit Go.Extern.Stop Go.Stop Go.Extern
def tab:List (Int × Int × Int):=[(1,1,3),(2,1,3),(1,2,2),(2,2,2),(2,3,1),(3,4,4),(1,5,5),(2,5,5),(3,5,5),(4,5,5)]
def row(j:Nat):Int × Int × Int:=tab.getD j (0,0,0)
def nxt(p e:Int):Int:=(look tab p e).getD 0
def Says(w:World)(B:Nat):Prop:=∃ l,zgg w B l/\∀ x,x∈l↔x∈tab
theorem Says.keep{w w':World}{B:Nat}(h:Says w B)(k:Keep w w'):Says w' B:=by
 obtain⟨l,h1,h2⟩:=h;exact⟨l,h1.keep k,h2⟩
theorem aee:∀ x∈tab,look tab x.1 x.2.1=some x.2.2:=by decide
theorem zyk{l:List (Int × Int × Int)}(h:∀ x,x∈l↔x∈tab)(p e:Int):look l p e=look tab p e:=by
 cases hl:look l p e with
 | none =>
   refine(zmy fun v hv=>?_).symm
   exact look_none hl v ((h _).2 hv)
 | some v=>exact(aee _ ((h _).1 (look_mem hl))).symm
theorem air:∀ x∈tab,1<=x.2.2:=by decide
theorem adq(p e:Int):(look tab p e).isSome=decide (nxt p e≠0):=by
 unfold nxt;cases hl:look tab p e with
 | none=>rfl
 | some v =>
   have:=air _ (look_mem hl);simp at this ⊢
   omega
theorem zzd{w:World}{B:Nat}(h:Says w B)(p e:Int):
  (Instr.lookup 192 (.map (some B)) (kv p e) true).run Tryz.prog w=.ok (.tuple #[.int .i64 (nxt p e),.bool (decide (nxt p e≠0))]) w:=by
 obtain⟨l,h1,h2⟩:=h;rw[abe h1,zyk h2,adq];rfl
def opsOf:Option Code->Array Oper
 | some (.seq _ (.seq (.region _ ops _) _))=>ops
 | _=>#[]
noncomputable def zgl:Array Oper:=opsOf Tryz.f137.body
def lst(r:Nat->Bool):Array Bool:=#[true,true,r 0,true,r 1,true,r 2,true,r 3,true,r 4,true,r 5,true,r 6,true,r 7,true,r 8,true,r 9,false,false]
def bit(b:Bool):Nat:=if b then 0 else 1
def cnt(r:Nat->Bool):Nat:=bit (r 0)+bit (r 1)+bit (r 2)+bit (r 3)+bit (r 4)+bit (r 5)+bit (r 6)+bit (r 7)+bit (r 8)+bit (r 9)
def upd(r:Nat->Bool)(j:Nat):Nat->Bool:=fun i=>if i=j then true else r i
theorem zlt{j:Nat}(h:j<10):j=0\/j=1\/j=2\/j=3\/j=4\/j=5\/j=6\/j=7\/j=8\/j=9:=by omega
theorem ahb(r:Nat->Bool){j:Nat}(h:j<10):(lst r).setIfInBounds (2 * j+2) true=lst (upd r j):=by
 rcases zlt h with rfl | rfl | rfl | rfl | rfl | rfl | rfl | rfl | rfl | rfl<;>rfl
theorem afr(r:Nat->Bool){j:Nat}(h:j<10)(hr:r j=false):cnt (upd r j)+1=cnt r:=by
 rcases zlt h with rfl | rfl | rfl | rfl | rfl | rfl | rfl | rfl | rfl | rfl<;>simp[cnt,upd,hr,bit]<;>omega
theorem zrn{r:Nat->Bool}(h:cnt r=0){j:Nat}(hj:j<10):r j=true:=by
 have hb (b:Bool) (h:bit b=0):b=true:=by cases b<;>simp_all [bit]
 unfold cnt at h;rcases zlt hj with rfl | rfl | rfl | rfl | rfl | rfl | rfl | rfl | rfl | rfl<;>exact hb _ (by omega)
theorem agz{r:Nat->Bool}(h:cnt r=0):lst r=lst fun _=>true:=by
 unfold lst;simp[zrn h]
set_option maxRecDepth 100000 in
theorem zym(r:Nat->Bool):Region.ready .any zgl (lst r)=(([(2,r 0),(4,r 1),(6,r 2),(8,r 3),(10,r 4),(12,r 5),(14,r 6),(16,r 7),(18,r 8),(20,r 9)].filter (fun x=>!x.2)).map (·.1)) ++
  (if r 0&&r 1&&r 2&&r 3&&r 4&&r 5&&r 6&&r 7&&r 8&&r 9 then[21] else[]):=by
 unfold lst;generalize r 0=b0;generalize r 1=b1;generalize r 2=b2;generalize r 3=b3;generalize r 4=b4;generalize r 5=b5;generalize r 6=b6;generalize r 7=b7;generalize r 8=b8;generalize r 9=b9
 revert b0 b1 b2 b3 b4 b5 b6 b7 b8 b9
 decide +kernel
theorem aat{Q:Exit->Act->World->Prop}{next:Act->World->Prop}{a:Act}{w:World}{B:Nat}{l:List (Int × Int × Int)}{p e v:Int}{s:Nat}{o:Oper}
  (hop:o.op=.insert 192 (.tmp 1) (.tmp s) (.const (.int .i64 v))) (hd:o.dst=none) (e1:a.eval (.tmp 1)=.map (some B)) (e2:a.eval (.tmp s)=kv p e)
  (hm:zgg w B l) (hn:look l p e=none) (K:∀ w',zgg w' B (l++[(p,e,v)])->w.grownBy w' (some B)->next a w'):o.wp Tryz.prog a w next Q:=by
 obtain⟨w',hrun,h1,h2⟩:=ahd hm p e v hn;unfold Oper.wp;have e3:a.eval (.const (.int .i64 v))=.int .i64 v:=rfl;simp[execOp,hop,e1,e2,e3,hrun,Result.andThen]
 have:=K w' h1 h2
 simpa [Oper.upon,hd,Act.put] using this
theorem ahv:∀ i,i<10->∀ j,j<10->(row i).1=(row j).1->(row i).2.1=(row j).2.1->i=j:=by decide
theorem row_mem:∀ j,j<10->row j∈tab:=by decide
theorem mem_row:∀ x∈tab,∃ j,j<10/\x=row j:=by
 intro x hx;obtain⟨j,hj,e⟩:=List.getElem_of_mem hx;exact⟨j,hj,by simp[row,List.getD,hj,e]⟩
section
variable{Q:Exit->Act->World->Prop}{a:Act}{B:Nat}{W:World}
theorem zxx(hB:W.heap.size<=B)(e1:a.eval (.tmp 1)=.map (some B))(e2:∀ j,j<10->a.eval (.tmp (j+2))=kv (row j).1 (row j).2.1){n:Nat}
  (ih:∀ r l w,cnt r=n->zgg w B l->(∀ x,x∈l↔∃ j,j<10/\r j=true/\x=row j)->Keep W w->wpAny Tryz.prog .any zgl Q (n+2) (lst r) a w)
  {r:Nat->Bool} {l:List (Int × Int × Int)} {w:World} (hc:cnt r=n+1) (hm:zgg w B l) (hl:∀ x,x∈l↔∃ j,j<10/\r j=true/\x=row j) (k:Keep W w)
  {j:Nat} (hj:j<10) (hr:r j=false) {o:Oper} (ho:zgl[2 * j+2]?=some o) (hop:o.op=.insert 192 (.tmp 1) (.tmp (j+2)) (.const (.int .i64 (row j).2.2))) (hd:o.dst=none) (hg:o.guard=none) :
  wpOp Tryz.prog zgl Q (2 * j+2) (wpAny Tryz.prog .any zgl Q (n+2) ((lst r).setIfInBounds (2 * j+2) true)) a w:=by
 have hn:look l (row j).1 (row j).2.1=none:=by
  refine zmy fun v hv=>?_
  obtain⟨i,hi,hri,he⟩:=(hl _).1 hv;have h1:(row i).1=(row j).1:=by rw[<- he]
  have h2:(row i).2.1=(row j).2.1:=by rw[<- he]
  obtain rfl:=ahv i hi j hj h1 h2;rw[hr] at hri;cases hri
 unfold wpOp;rw[ho];have hw:Region.wanted o (yielded zgl a.tmps)=true:=by simp[Region.wanted,hg]
 simp only[hw,if_true];refine .inl (aat hop hd e1 (e2 j hj) hm hn fun w' h1 h2=>?_)
 rw[ahb r hj];refine ih (upd r j) _ w' (by have:=afr r hj hr;omega) h1 (fun x=>?_) (Below.grown k h2 k.size (fun i hi=>by cases hi;exact hB))
 rw[List.mem_append,hl];constructor
 ·rintro(⟨i,hi,hri,rfl⟩ | h)
  ·exact⟨i,hi,by unfold upd;split<;>simp_all,rfl⟩
  ·exact⟨j,hj,by simp[upd],List.mem_singleton.1 h⟩
 ·rintro⟨i,hi,hri,rfl⟩
  by_cases hij:i=j
  ·subst hij
   exact .inr (List.mem_singleton.2 rfl)
  ·exact .inl ⟨i,hi,by simpa [upd,hij] using hri,rfl⟩
theorem fill(hB:W.heap.size<=B)(e1:a.eval (.tmp 1)=.map (some B))(e2:∀ j,j<10->a.eval (.tmp (j+2))=kv (row j).1 (row j).2.1)
  (K:∀ w',Says w' B->Keep W w'->wpAny Tryz.prog .any zgl Q 2 (lst fun _=>true) a w') :
  ∀ n r l w,cnt r=n->zgg w B l->(∀ x,x∈l↔∃ j,j<10/\r j=true/\x=row j)->Keep W w->wpAny Tryz.prog .any zgl Q (n+2) (lst r) a w:=by
 intro n
 induction n with
 | zero =>
   intro r l w hc hm hl k;rw[agz hc];refine K w ⟨l,hm,fun x=>?_⟩ k
   rw[hl];constructor
   ·rintro⟨j,hj,_,rfl⟩
    exact row_mem j hj
   ·intro hx
    obtain⟨j,hj,rfl⟩:=mem_row x hx;exact⟨j,hj,zrn hc hj,rfl⟩
 | succ n ih =>
   intro r l w hc hm hl k;show(Region.ready .any zgl (lst r)=[]->Q .normal a w)/\∀ i∈Region.ready .any zgl (lst r),wpOp Tryz.prog zgl Q i (wpAny Tryz.prog .any zgl Q (n+2) ((lst r).setIfInBounds i true)) a w
   have hall:(r 0&&r 1&&r 2&&r 3&&r 4&&r 5&&r 6&&r 7&&r 8&&r 9)=false:=by
    cases h:(r 0&&r 1&&r 2&&r 3&&r 4&&r 5&&r 6&&r 7&&r 8&&r 9) with
    | false=>rfl
    | true =>
      simp only[Bool.and_eq_true] at h;obtain⟨⟨⟨⟨⟨⟨⟨⟨⟨h0,h1⟩,h2⟩,h3⟩,h4⟩,h5⟩,h6⟩,h7⟩,h8⟩,h9⟩:=h;rw[cnt,h0,h1,h2,h3,h4,h5,h6,h7,h8,h9] at hc;cases hc
   have hst {j:Nat} (hj:j<10) (hr:r j=false) {o:Oper} (ho:zgl[2 * j+2]?=some o) (hop:o.op=.insert 192 (.tmp 1) (.tmp (j+2)) (.const (.int .i64 (row j).2.2))) (hd:o.dst=none) (hg:o.guard=none):=
    zxx (Q:=Q) hB e1 e2 ih hc hm hl k hj hr ho hop hd hg
   rw[zym,hall];refine⟨fun h=>?_,fun i hi=>?_⟩
   ·exfalso
    simp only[Bool.false_eq_true,if_false,List.append_nil,List.map_eq_nil_iff,List.filter_eq_nil_iff] at h;have hb (b:Bool) (h:¬(!b)=true):bit b=0:=by cases b<;>simp_all [bit]
    have:=hb (r 0) (h (2,r 0) (by simp))
    have:=hb (r 1) (h (4,r 1) (by simp))
    have:=hb (r 2) (h (6,r 2) (by simp))
    have:=hb (r 3) (h (8,r 3) (by simp))
    have:=hb (r 4) (h (10,r 4) (by simp))
    have:=hb (r 5) (h (12,r 5) (by simp))
    have:=hb (r 6) (h (14,r 6) (by simp))
    have:=hb (r 7) (h (16,r 7) (by simp))
    have:=hb (r 8) (h (18,r 8) (by simp))
    have:=hb (r 9) (h (20,r 9) (by simp))
    unfold cnt at hc;omega
   ·simp only[Bool.false_eq_true,if_false,List.append_nil,List.mem_map,List.mem_filter] at hi
    obtain⟨⟨i',b⟩,⟨hm',hb⟩,rfl⟩:=hi;simp only[List.mem_cons,List.not_mem_nil,or_false,Prod.mk.injEq] at hm';simp only[Bool.not_eq_true'] at hb;subst hb;rcases hm' with ⟨rfl,h⟩ | ⟨rfl,h⟩ | ⟨rfl,h⟩ | ⟨rfl,h⟩ | ⟨rfl,h⟩ | ⟨rfl,h⟩ | ⟨rfl,h⟩ | ⟨rfl,h⟩ | ⟨rfl,h⟩ | ⟨rfl,h⟩
    ·exact hst (j:=0) (by omega) h.symm rfl rfl rfl rfl
    ·exact hst (j:=1) (by omega) h.symm rfl rfl rfl rfl
    ·exact hst (j:=2) (by omega) h.symm rfl rfl rfl rfl
    ·exact hst (j:=3) (by omega) h.symm rfl rfl rfl rfl
    ·exact hst (j:=4) (by omega) h.symm rfl rfl rfl rfl
    ·exact hst (j:=5) (by omega) h.symm rfl rfl rfl rfl
    ·exact hst (j:=6) (by omega) h.symm rfl rfl rfl rfl
    ·exact hst (j:=7) (by omega) h.symm rfl rfl rfl rfl
    ·exact hst (j:=8) (by omega) h.symm rfl rfl rfl rfl
    ·exact hst (j:=9) (by omega) h.symm rfl rfl rfl rfl
end
end Go.Proofs.YtcogiogjpbkeaaaGreatDoor
