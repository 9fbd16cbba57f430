/-
  The methods of a table of ints but IDs. No condition.
  The store's memory: its struct, its row of pods with their requests, its table of places. No condition.
  A copy of a pod. Condition: at most 1048576 amounts.
  The store: New, index, Get, Len. Conditions: at most 1000 pods, each with at most 1000 amounts.
-/
import Derived.Test.YtcogiogjpbkeaaaGreatDoorJ0
import Derived.Test.YtcogiogjpbkeaaaGreatDoorJ25
namespace Go.Proofs.YtcogiogjpbkeaaaGreatDoor.T13
open Go.RowKit Go.Lib Go.Extern V12
open Go.ChangeMaps (setBlock)
abbrev TMI:=TM 183
theorem Tryz.ztb(w:World):(zeroValue 3).run Tryz.prog w=.ok (.int .i64 0) w:=by kernel_rfl
def err(c:Int):Value:=.iface 103 (.int .i64 c)
set_option maxHeartbeats 1000000 in
theorem aei(s:Int)(hs:I64 s)(w:World):Calls Tryz.prog 89 #[.int .i64 s] w fun e w'=>∃ p,e=.returned (.pointer (some ⟨p,0,none⟩))/\∃ m,TMI w' (if 0<=s then s else 0) p m []/\Keep w w'/\w.heap.size<=p/\w.heap.size<=m:=by
 have hmm:=@run_makeMap Tryz.prog;have hs':=Zq hs;clear hs
 by_cases h0:0<=s
 ·rw[if_pos h0]
  have hb1:decide (0<=s)=true:=decide_eq_true h0;have hb2:decide (s<0)=false:=decide_eq_false (by omega)
  have hb3:decide (0<s)=true\/s=0:=by by_cases h:0<s;exact .inl (decide_eq_true h);exact .inr (by omega)
  have hm:max s 0=s:=by omega
  go_enter Tryz.func89,Tryz.ntmps89
  go_wp2;try simp only[hm]
  go_ret
  refine⟨_,rfl,_,⟨?_,(MV.is_new w).of (Below.block (Keep.one (w.alloc (.map #[] 0)) _) _ (by rw[World.size_alloc];omega)),h0,hs'.out.2,by simpa using h0⟩,(Keep.one _ _).alloc _,by simp,by omega⟩
  have:=heap_alloc_new (w.alloc (.map #[] 0)) (.cells #[.int .i64 s,.map (some w.heap.size)] 183)
  rwa [World.size_alloc] at this
 ·rw[if_neg h0]
  have hb1:decide (0<=s)=false:=decide_eq_false h0;have hb2:decide (s<0)=true:=decide_eq_true (by omega)
  have hb3:decide (0<s)=false:=decide_eq_false (by omega)
  have hm:max s 0=0:=by omega
  go_enter Tryz.func89,Tryz.ntmps89
  go_wp2;try simp only[hm]
  go_ret
  refine⟨_,rfl,_,⟨?_,(MV.is_new w).of (Below.block (Keep.one (w.alloc (.map #[] 0)) _) _ (by rw[World.size_alloc];omega)),by omega,by omega,by simp⟩,(Keep.one _ _).alloc _,by simp,by omega⟩
  have:=heap_alloc_new (w.alloc (.map #[] 0)) (.cells #[.int .i64 0,.map (some w.heap.size)] 183)
  rwa [World.size_alloc] at this
section
variable{w:World}{s:Int}{p m:Nat}{l:List (Int × Value)}
theorem zsd(h:TMI w s p m l)(ty:TypeId)(W:World)(hW:W.heap[m]?=w.heap[m]?):(Builtin.len_ #[181] ty #[.map (some m)]).run Tryz.prog W=.ok (.int .i64 l.length) W:=by
 obtain⟨es,c,hb,hl⟩:=(h.mp.of hW).length_le;rw[<- hl];simp[Builtin.len_,MapKept.run_getObj_map hb,go_sem]
set_option maxHeartbeats 1000000 in
theorem zph(h:TMI w s p m l):Calls Tryz.prog 133 #[.pointer (some ⟨p,0,none⟩)] w fun e w'=>e=.returned (.int .i64 (s - l.length))/\zbb w w':=by
 have c0:=h.e0;have c1:=h.e1;have hl:=fun ty=>zsd h ty w rfl
 have hl2:=fun ty=>zsd h ty w.drew rfl
 have h1:=h.lo;have h2:=h.hi;have h3:=h.len;have hw:wrap64 (s - l.length)=s - l.length:=by unfold wrap64;omega
 clear h
 go_enter Tryz.func133,Tryz.ntmps133
 go_wp2
 go_region
 all_goals go_wp2
 all_goals go_ret
 all_goals (try rw[hw])
 all_goals exact⟨rfl,(zbb.refl w).drew⟩
set_option maxHeartbeats 1000000 in
theorem zvp(h:TMI w s p m l)(id:Int)(x:Int)(hx:MV.lookV l id=some (.int .i64 x)):Calls Tryz.prog 138 #[.pointer (some ⟨p,0,none⟩),.int .i64 id] w fun e w'=>e=.returned (.tuple #[.int .i64 x,.bool true])/\w=w':=by
 have c1:=h.e1;have ml:=MV.look2 Tryz.underlying181 Tryz.underlying3 Tryz.ztb h.mp id;rw[hx] at ml;simp only[Option.getD_some,Option.isSome_some] at ml;clear h hx
 go_enter Tryz.func138,Tryz.ntmps138
 go_wp2;go_ret2
 exact⟨rfl,rfl⟩
set_option maxHeartbeats 1000000 in
theorem zvo(h:TMI w s p m l)(id:Int)(hx:MV.lookV l id=none):Calls Tryz.prog 138 #[.pointer (some ⟨p,0,none⟩),.int .i64 id] w fun e w'=>e=.returned (.tuple #[.int .i64 0,.bool false])/\w=w':=by
 have c1:=h.e1;have ml:=MV.look2 Tryz.underlying181 Tryz.underlying3 Tryz.ztb h.mp id;rw[hx] at ml;simp only[Option.getD_none,Option.isSome_none] at ml;clear h hx
 go_enter Tryz.func138,Tryz.ntmps138
 go_wp2;go_ret2
 exact⟨rfl,rfl⟩
set_option maxHeartbeats 1000000 in
theorem zzl(h:TMI w s p m l)(id:Int)(x y:Int)(hy:MV.lookV l id=some (.int .i64 y)):Calls Tryz.prog 98 #[.pointer (some ⟨p,0,none⟩),.int .i64 id,.int .i64 x] w fun e w'=>e=.returned (err 6)/\w=w':=by
 have c1:=h.e1;have ml:=MV.look2 Tryz.underlying181 Tryz.underlying3 Tryz.ztb h.mp id;rw[hy] at ml;simp only[Option.getD_some,Option.isSome_some] at ml;clear h hy
 go_enter Tryz.func98,Tryz.ntmps98
 go_wp2;go_ret
 exact⟨rfl,rfl⟩
set_option maxHeartbeats 1000000 in
theorem zvn(h:TMI w s p m l)(id:Int)(x:Int)(hy:MV.lookV l id=none)(hf:(l.length:Int)=s):Calls Tryz.prog 98 #[.pointer (some ⟨p,0,none⟩),.int .i64 id,.int .i64 x] w fun e w'=>e=.returned (err 7)/\zbb w w':=by
 have c1:=h.e1;have ml:=MV.look2 Tryz.underlying181 Tryz.underlying3 Tryz.ztb h.mp id;rw[hy] at ml;simp only[Option.getD_none,Option.isSome_none] at ml;have hr:=Zq (zph h);have e0:s - (l.length:Int)=0:=by omega
 rw[e0] at hr;clear h hy hf e0
 go_enter Tryz.func98,Tryz.ntmps98
 go_wp2_with (go_at_call 133;refine hr.out.mono ?_;rintro e w' ⟨rfl,hw⟩)
 go_ret
 exact⟨rfl,hw⟩
set_option maxRecDepth 100000 in
set_option maxHeartbeats 1000000 in
theorem zzm(h:TMI w s p m l)(id:Int)(x:Int)(hy:MV.lookV l id=none)(hf:(l.length:Int)<s):Calls Tryz.prog 98 #[.pointer (some ⟨p,0,none⟩),.int .i64 id,.int .i64 x] w fun e w'=>e=.returned .nilIface/\TMI w' s p m (l++[(id,.int .i64 x)])/\Fr (·=m) w w':=by
 have c1:=h.e1;have ml:=MV.look2 Tryz.underlying181 Tryz.underlying3 Tryz.ztb h.mp id;rw[hy] at ml;simp only[Option.getD_none,Option.isSome_none] at ml;have hr:=Zq (zph h);have e0:¬s - (l.length:Int)=0:=by omega
 obtain⟨n,hn⟩:=Zn (s - (l.length:Int));rw[<- hn] at hr e0;replace hn:=Zq hn;obtain⟨o,ho,hu⟩:=MV.put_new Tryz.underlying181 Tryz.underlying3 h.mp id (.int .i64 x) (MV.look_none.1 hy);have H:=Zq h;have hf':=Zq hf;have ho':=Zq ho;have hu':=Zq hu;clear h hy hf ho hu
 go_enter Tryz.func98,Tryz.ntmps98
 go_wp2_with (go_at_call 133;refine hr.out.mono ?_;rintro e w' ⟨rfl,hw⟩;obtain⟨q,hq⟩:=hw;have c2:=((zbb.refl w).drewN q).keep.cell c1;have hu2:=hu'.out (w.drewN q) rfl;subst hq)
 go_ret
 refine⟨rfl,?_⟩;exact H.out.put ((zbb.refl w).drewN q).keep ho'.out (by have:=hf'.out;simp;omega)
end
end Go.Proofs.YtcogiogjpbkeaaaGreatDoor.T13
namespace Go.Proofs.YtcogiogjpbkeaaaGreatDoor.T13
open Go.RowKit Go.Sort Go.Lib V12
open Go.ChangeMaps (setBlock)
def prs(P:Nat->zaa)(n:Nat):List (Int × Value):=(List.range n).map fun j=>((P j).k,.int .i64 j)
theorem zju(P:Nat->zaa)(n:Nat):(prs P n).length=n:=by simp[prs]
theorem zsp(P:Nat->zaa)(n:Nat):(prs P n).map (·.1)=keys (lst P n):=by unfold prs keys lst;rw[List.map_map,List.map_map];rfl
theorem zoz{P Q:Nat->zaa}{n:Nat}(h:∀ j,j<n->(P j).k=(Q j).k):prs P n=prs Q n:=List.map_congr_left fun j hj=>by
 show((P j).k,Value.int .i64 j)=((Q j).k,Value.int .i64 j)
 rw[h j (List.mem_range.1 hj)]
theorem aby(P:Nat->zaa)(n:Nat)(x:zaa):prs (put P n x) (n+1)=prs P n++[(x.k,.int .i64 n)]:=by
 have e:prs (put P n x) n=prs P n:=zoz fun j hj=>by rw[zbj _ _ _ (by omega)]
 rw[<- e];unfold prs;rw[List.range_succ,List.map_append,List.map_singleton,zat]
structure ST(w:World)(b0:Nat)(s:Int)(q t m:Nat)(A:Option Addr)(c n:Nat)(P:Nat->zaa):Prop where
 hq:w.heap[q]?=some (.cells #[.slice A n c,.pointer (some ⟨t,0,none⟩)] 139 (0,0))
 tb:TMI w (if 0<=s then s else 0) t m (prs P n)
 rp:zas w b0 (.slice A n c) n P
 bq:b0<=q
 bt:b0<=t
 bm:b0<=m
 lk:LOk ((lst P n).map nm)
def FE(q t m:Nat)(A:Option Addr)(c n:Nat)(P:Nat->zaa)(i:Nat):Prop:=i=q\/i=t\/i=m\/(Value.slice A n c).ownBlock=some i\/∃ j,j<n/\(Value.slice (P j).A (P j).m (P j).c).ownBlock=some i
section
variable{w w':World}{b0:Nat}{s:Int}{q t m:Nat}{A:Option Addr}{c n:Nat}{P:Nat->zaa}
theorem ST.keep(h:ST w b0 s q t m A c n P)(k:Keep w w'):ST w' b0 s q t m A c n P:=⟨k.block h.hq,h.tb.keep k,h.rp.keep k,h.bq,h.bt,h.bm,h.lk⟩
theorem ST.frame(h:ST w b0 s q t m A c n P)(f:∀ i,FE q t m A c n P i->w'.heap[i]?=w.heap[i]?):ST w' b0 s q t m A c n P:=by
 refine⟨(f q (Or.inl rfl)).trans h.hq,⟨(f t (Or.inr (Or.inl rfl))).trans h.tb.hp,h.tb.mp.of (f m (Or.inr (Or.inr (Or.inl rfl)))),h.tb.lo,h.tb.hi,h.tb.len⟩,⟨?_,fun j hj=>?_,h.rp.ok⟩,h.bq,h.bt,h.bm,h.lk⟩
 ·exact zao h.rp.row fun g hg=>f g (Or.inr (Or.inr (Or.inr (Or.inl hg))))
 ·exact zao (h.rp.own j hj) fun g hg=>f g (Or.inr (Or.inr (Or.inr (Or.inr ⟨j,hj,hg⟩))))
theorem zcl{w:World}{k:Nat}{o:Obj}(h:w.heap[k]?=some o):k<w.heap.size:=(Array.getElem?_eq_some_iff.1 h).1
theorem ST.lt(h:ST w b0 s q t m A c n P):∀ i,FE q t m A c n P i->b0<=i/\i<w.heap.size:=by
 rintro i (rfl | rfl | rfl | h1 | ⟨j,hj,h1⟩)
 ·exact⟨h.bq,zcl h.hq⟩
 ·exact⟨h.bt,h.tb.plt⟩
 ·exact⟨h.bm,h.tb.mlt⟩
 ·exact h.rp.row.lt i h1
 ·exact(h.rp.own j hj).lt i h1
theorem ST.mp(h:ST w b0 s q t m A c n P):∃ es x,w.heap[m]?=some (.map es x):=by
 obtain⟨es,x,e,_⟩:=h.tb.mp.length_le;exact⟨es,x,e⟩
theorem ST.off(h:ST w b0 s q t m A c n P){a:Addr}{v:Value}(hc:w.cell? a=some v):¬a.block=m:=fun e=>by
 obtain⟨es,x,e2⟩:=h.mp;simp[World.cell?,e,e2] at hc
theorem ST.offT(h:ST w b0 s q t m A c n P){b:Nat}{T:TypeId}(hT:Typ w b T):¬b=m:=fun e=>by
 obtain⟨es,x,e2⟩:=h.mp;obtain⟨cs,loc,e3⟩:=hT;rw[e,e2] at e3;cases e3
theorem zck{w:World}{b:Nat}{T T2:TypeId}(h:Typ w b T)(k:Typ w b T2):T=T2:=by
 obtain⟨cs,loc,e⟩:=h;obtain⟨cs2,loc2,e2⟩:=k;rw[e] at e2;simp at e2
 exact e2.2.1
theorem zcn{w:World}{base n z:Nat}{T:TypeId}{v:Value}{xs:List Value}(h:w.ownsRow base T z v n xs){g:Nat}(hg:v.ownBlock=some g):Typ w g T:=by
 obtain⟨cur,e⟩:=zfp h hg;exact⟨cur,_,e⟩
theorem ST.tq(h:ST w b0 s q t m A c n P):Typ w q 139:=⟨_,_,h.hq⟩
theorem ST.tt(h:ST w b0 s q t m A c n P):Typ w t 183:=⟨_,_,h.tb.hp⟩
theorem ST.tg(h:ST w b0 s q t m A c n P){g:Nat}(hg:(Value.slice A n c).ownBlock=some g):Typ w g 26:=zcn h.rp.row hg
theorem ST.tr(h:ST w b0 s q t m A c n P){j:Nat}(hj:j<n){g:Nat}(hg:(Value.slice (P j).A (P j).m (P j).c).ownBlock=some g):Typ w g 2:=zcn (h.rp.own j hj) hg
theorem ST.c0(h:ST w b0 s q t m A c n P):w.cell? ⟨q,0,none⟩=some (.slice A n c):=by rw[cell_of_row w q _ _ _ _ h.hq];rfl
theorem ST.c1(h:ST w b0 s q t m A c n P):w.cell? ⟨q,1,none⟩=some (.pointer (some ⟨t,0,none⟩)):=by rw[cell_of_row w q _ _ _ _ h.hq];rfl
theorem ST.f0(h:ST w b0 s q t m A c n P)(i:Nat):w.frozen? ⟨q,i,none⟩=false:=frozen_of_row w q i _ _ h.hq
theorem ST.nodup(h:ST w b0 s q t m A c n P):((prs P n).map (·.1)).Nodup:=by
 rw[zsp,<- zbq];exact h.lk.nod
theorem ST.look_in(h:ST w b0 s q t m A c n P){j:Nat}(hj:j<n):MV.lookV (prs P n) (P j).k=some (.int .i64 j):=by
 rw[MV.look_mem h.nodup];exact List.mem_map.2 ⟨j,List.mem_range.2 hj,rfl⟩
theorem zfi{P:Nat->zaa}{n:Nat}{id:Int}(h:id∉keys (lst P n)):MV.lookV (prs P n) id=none:=by
 rw[MV.look_none,zsp];exact h
theorem zqc{P:Nat->zaa}{n:Nat}{id:Int}(h:id∈keys (lst P n)):∃ j,j<n/\(P j).k=id:=by
 obtain⟨y,hy,e⟩:=List.mem_map.1 h;obtain⟨j,hj,rfl⟩:=lst_mem.1 hy;exact⟨j,hj,e⟩
theorem aki{P:Nat->zaa}{n j:Nat}(hj:j<n):(P j).k∈keys (lst P n):=List.mem_map.2 ⟨P j,lst_mem.2 ⟨j,hj,rfl⟩,rfl⟩
theorem ST.uniq(h:ST w b0 s q t m A c n P){i j:Nat}(hi:i<n)(hj:j<n)(e:(P i).k=(P j).k):i=j:=by
 have h1:=h.look_in hi;rw[e,h.look_in hj] at h1;simp at h1
 omega
theorem ST.get(h:ST w b0 s q t m A c n P){j:Nat}(hj:j<n):getL (lst P n) (P j).k=P j :=
 zkl hj rfl fun i hi e=>by
  have:=h.uniq (by omega) hj e
  omega
theorem zbk.off{w w':World}(hg:zbk w)(h:ST w b0 s q t m A c n P)(f:Fr (·=m) w w'):zbk w':=f.cell hg (h.off hg)
end
def OSd:ame:=fun w s q L X w1=>∃ t m A c P,ST w1 w.heap.size s q t m A c L.length P/\(lst P L.length).map nm=L/\Keep w w1/\∀ i,X i->i<w1.heap.size/\¬FE q t m A c L.length P i
section
variable{w w1 w2:World}{s:Int}{q:Nat}{L:List zaa}{X Z:Nat->Prop}
theorem OSd.keep(o:OSd w s q L X w1)(k:Keep w1 w2):OSd w s q L X w2:=by
 obtain⟨t,m,A,c,P,h,hL,k0,hX⟩:=o;exact⟨t,m,A,c,P,h.keep k,hL,k0.trans k,fun i hi=>⟨Nat.lt_of_lt_of_le (hX i hi).1 k.size,(hX i hi).2⟩⟩
theorem OSd.more(o:OSd w s q L X w1)(k:Keep w1 w2)(hZ:∀ i,Z i->w1.heap.size<=i/\i<w2.heap.size):OSd w s q L (fun i=>X i\/Z i) w2:=by
 obtain⟨t,m,A,c,P,h,hL,k0,hX⟩:=o;refine⟨t,m,A,c,P,h.keep k,hL,k0.trans k,?_⟩;rintro i (hi | hi)
 ·exact⟨Nat.lt_of_lt_of_le (hX i hi).1 k.size,(hX i hi).2⟩
 ·exact⟨(hZ i hi).2,fun hF=>by have:=(h.lt i hF).2;have:=(hZ i hi).1;omega⟩
theorem OSd.less(o:OSd w s q L X w1)(hZ:∀ i,Z i->X i):OSd w s q L Z w1:=by
 obtain⟨t,m,A,c,P,h,hL,k0,hX⟩:=o;exact⟨t,m,A,c,P,h,hL,k0,fun i hi=>hX i (hZ i hi)⟩
theorem OSd.write(o:OSd w s q L X w1)(k:Keep w w2)(hs:w1.heap.size<=w2.heap.size)(f:∀ i,i<w1.heap.size->¬X i->w2.heap[i]?=w1.heap[i]?):OSd w s q L X w2:=by
 obtain⟨t,m,A,c,P,h,hL,k0,hX⟩:=o;exact⟨t,m,A,c,P,h.frame fun i hi=>f i (h.lt i hi).2 fun hx=>(hX i hx).2 hi,hL,k,fun i hi=>⟨Nat.lt_of_lt_of_le (hX i hi).1 hs,(hX i hi).2⟩⟩
theorem OSd.grow(o:OSd w s q L X w1)(k:Keep w w2)(hs:w1.heap.size<=w2.heap.size)(f:∀ i,i<w1.heap.size->¬X i->w2.heap[i]?=w1.heap[i]?)(hZ:∀ i,Z i->w1.heap.size<=i/\i<w2.heap.size):OSd w s q L (fun i=>X i\/Z i) w2:=by
 obtain⟨t,m,A,c,P,h,hL,k0,hX⟩:=o;refine⟨t,m,A,c,P,h.frame fun i hi=>f i (h.lt i hi).2 fun hx=>(hX i hx).2 hi,hL,k,?_⟩
 rintro i (hi | hi)
 ·exact⟨Nat.lt_of_lt_of_le (hX i hi).1 hs,(hX i hi).2⟩
 ·exact⟨(hZ i hi).2,fun hF=>by have:=(h.lt i hF).2;have:=(hZ i hi).1;omega⟩
end
end Go.Proofs.YtcogiogjpbkeaaaGreatDoor.T13
namespace Go.Proofs.YtcogiogjpbkeaaaGreatDoor.T13
open Go.RowKit Go.Sort Go.Lib V12
theorem Tryz.infoC13:(Tryz.prog.info? 2).map (fun i=>(i.zero,i.size,i.bytes))=some (some (.int .i64 0),1,8):=by kernel_rfl
theorem Tryz.eqNilC(w:World):(binOp .eql 24 (.slice none 0 0) (.slice none 0 0)).run Tryz.prog w=.ok (.bool true) w:=by kernel_rfl
theorem Tryz.eqSomeC(a:Addr)(n c:Nat)(w:World):(binOp .eql 24 (.slice (some a) n c) (.slice none 0 0)).run Tryz.prog w=.ok (.bool false) w:=by kernel_rfl
set_option maxHeartbeats 1000000 in
theorem zfr(A:Option Addr)(n c:Nat)(Z:Nat->Int)(w:World)(hA:Rd w A n Z)(h0:A=none->n=0/\c=0)(hn:n<=1048576):
  Calls Tryz.prog 113 #[.slice A n c] w fun e w'=>∃ A' cap,e=.returned (.slice A' n cap)/\Keep w w'/\w'.ownsRow w.heap.size 2 1 (.slice A' n cap) n (zba n Z):=by
 cases A with
 | none =>
   obtain⟨rfl,rfl⟩:=h0 rfl;clear h0 hA;have q1:=Tryz.eqNilC
   go_enter Tryz.func113,Tryz.ntmps113
   go_wp2;go_ret
   exact⟨none,0,rfl,Keep.refl _,World.ownsRow_nil _ _ _ _⟩
 | some a =>
   clear h0;obtain⟨i0,hi0,hz0,hz1,hz2⟩:=info_parts Tryz.infoC13;have hnew:=zma (hA.keep (Keep.one w (.cells #[] 2)));replace hnew:=Zq hnew;have hown:=World.ownsRow_made (base:=w.heap.size) (e:=2) (size:=1) w #[] 0 (Nat.le_refl _) (Nat.zero_le _) rfl;clear hA;have q1:=Tryz.eqSomeC
   go_enter Tryz.func113,Tryz.ntmps113
   go_wp2_with (at_builtin;refine wpList_append_own _ rfl _ _ 24 rfl w.heap.size 2 i0 (.int .i64 0) 1 8 Tryz.underlying24 hi0 hz0 hz1 hz2 rfl (by decide) _ _ _ rfl hown a n c (zba n Z) rfl (by simp[zba]) hnew.out (zjw n Z) (by unfold maxLen;omega) (by omega) (by simp) ?_;intro v' w2 hown2 hgrow hnil)
   go_ret
   obtain⟨A',cap,rfl,_⟩:=zan hown2;simp only[Nat.zero_add,List.nil_append] at hown2;exact⟨A',cap,by simp,zad (Keep.one w _) hgrow (fun q hq=>(hown.lt q hq).1),hown2⟩
set_option maxRecDepth 100000 in
set_option maxHeartbeats 4000000 in
theorem ahn(x:zaa)(w:World)(hx:zah w x)(hm:x.m<=1048576):
  Calls Tryz.prog 99 #[x.val] w fun e w'=>∃ A c,e=.returned (x.at A c).val/\Keep w w'/\zah w' (x.at A c)/\w'.ownsRow w.heap.size 2 1 (.slice A x.m c) x.m (zba x.m x.Z):=by
 have hx:=Zq hx;have hm:=Zq hm;unfold zaa.val zaa.at
 go_enter Tryz.func99,Tryz.ntmps99
 go_wp2_with fail;refine(zfr x.A x.m x.c x.Z _ (hx.out.rd.keep ?_) hx.out.nil hm.out).mono ?_
 ·repeat (first | exact Keep.refl _ | apply Keep.alloc)
 rintro e w1 ⟨A',cap,rfl,k1,hown⟩;obtain⟨W,hW⟩:=Zn ((w.alloc (.cells #[.int .i64 x.k,.int .i64 x.p,.bool x.f,.int .i64 x.g,.slice x.A x.m x.c,.int .i64 x.a,.int .i64 x.h,.int .i64 x.d,.int .i64 x.t] 26)).alloc (.cells #[.int .i64 0,.int .i64 0,.bool false,.int .i64 0,.slice none 0 0,.int .i64 0,.int .i64 0,.int .i64 0,.int .i64 0] 26));rw[<- hW] at k1 hown;have hsz:W.heap.size=w.heap.size+1+1:=by rw[hW,World.size_alloc,World.size_alloc]
 have hb1:W.heap[w.heap.size]?=some (.cells #[.int .i64 x.k,.int .i64 x.p,.bool x.f,.int .i64 x.g,.slice x.A x.m x.c,.int .i64 x.a,.int .i64 x.h,.int .i64 x.d,.int .i64 x.t] 26 (0,0)):=by
  rw[hW];exact(Keep.one _ _).block (heap_alloc_new w _)
 have hb2:W.heap[w.heap.size+1]?=some (.cells #[.int .i64 0,.int .i64 0,.bool false,.int .i64 0,.slice none 0 0,.int .i64 0,.int .i64 0,.int .i64 0,.int .i64 0] 26 (0,0)):=by
  rw[hW,<- World.size_alloc w (.cells #[.int .i64 x.k,.int .i64 x.p,.bool x.f,.int .i64 x.g,.slice x.A x.m x.c,.int .i64 x.a,.int .i64 x.h,.int .i64 x.d,.int .i64 x.t] 26)];exact heap_alloc_new _ _
 have K1:Hid (Keep w w1):=by
  refine Keep.trans ?_ k1;rw[hW];exact((Keep.refl w).alloc _).alloc _
 replace hb1:=k1.block hb1;replace hb2:=k1.block hb2;have lt1:w.heap.size+1+1<=w1.heap.size:=by rw[<- hsz];exact k1.size
 rw[hsz] at hown;replace hown:=Zq hown;clear k1 hW hsz;have p0:w1.cell? ⟨w.heap.size,0,none⟩=some (.int .i64 x.k):=by rw[cell_of_row w1 _ _ _ _ _ hb1];rfl
 have p1:w1.cell? ⟨w.heap.size,1,none⟩=some (.int .i64 x.p):=by rw[cell_of_row w1 _ _ _ _ _ hb1];rfl
 have p2:w1.cell? ⟨w.heap.size,2,none⟩=some (.bool x.f):=by rw[cell_of_row w1 _ _ _ _ _ hb1];rfl
 have p3:w1.cell? ⟨w.heap.size,3,none⟩=some (.int .i64 x.g):=by rw[cell_of_row w1 _ _ _ _ _ hb1];rfl
 have p4:w1.cell? ⟨w.heap.size,4,none⟩=some (.slice x.A x.m x.c):=by rw[cell_of_row w1 _ _ _ _ _ hb1];rfl
 have p5:w1.cell? ⟨w.heap.size,5,none⟩=some (.int .i64 x.a):=by rw[cell_of_row w1 _ _ _ _ _ hb1];rfl
 have p6:w1.cell? ⟨w.heap.size,6,none⟩=some (.int .i64 x.h):=by rw[cell_of_row w1 _ _ _ _ _ hb1];rfl
 have p7:w1.cell? ⟨w.heap.size,7,none⟩=some (.int .i64 x.d):=by rw[cell_of_row w1 _ _ _ _ _ hb1];rfl
 have p8:w1.cell? ⟨w.heap.size,8,none⟩=some (.int .i64 x.t):=by rw[cell_of_row w1 _ _ _ _ _ hb1];rfl
 have f4:w1.frozen? ⟨w.heap.size,4,none⟩=false:=frozen_of_row w1 _ _ _ _ hb1;have r0:w1.cell? ⟨w.heap.size+1,0,none⟩=some (.int .i64 0):=by rw[cell_of_row w1 _ _ _ _ _ hb2];rfl
 have r1:w1.cell? ⟨w.heap.size+1,1,none⟩=some (.int .i64 0):=by rw[cell_of_row w1 _ _ _ _ _ hb2];rfl
 have r2:w1.cell? ⟨w.heap.size+1,2,none⟩=some (.bool false):=by rw[cell_of_row w1 _ _ _ _ _ hb2];rfl
 have r3:w1.cell? ⟨w.heap.size+1,3,none⟩=some (.int .i64 0):=by rw[cell_of_row w1 _ _ _ _ _ hb2];rfl
 have r4:w1.cell? ⟨w.heap.size+1,4,none⟩=some (.slice none 0 0):=by rw[cell_of_row w1 _ _ _ _ _ hb2];rfl
 have r5:w1.cell? ⟨w.heap.size+1,5,none⟩=some (.int .i64 0):=by rw[cell_of_row w1 _ _ _ _ _ hb2];rfl
 have r6:w1.cell? ⟨w.heap.size+1,6,none⟩=some (.int .i64 0):=by rw[cell_of_row w1 _ _ _ _ _ hb2];rfl
 have r7:w1.cell? ⟨w.heap.size+1,7,none⟩=some (.int .i64 0):=by rw[cell_of_row w1 _ _ _ _ _ hb2];rfl
 have r8:w1.cell? ⟨w.heap.size+1,8,none⟩=some (.int .i64 0):=by rw[cell_of_row w1 _ _ _ _ _ hb2];rfl
 have g0:w1.frozen? ⟨w.heap.size+1,0,none⟩=false:=frozen_of_row w1 _ _ _ _ hb2;have g1:w1.frozen? ⟨w.heap.size+1,1,none⟩=false:=frozen_of_row w1 _ _ _ _ hb2;have g2:w1.frozen? ⟨w.heap.size+1,2,none⟩=false:=frozen_of_row w1 _ _ _ _ hb2;have g3:w1.frozen? ⟨w.heap.size+1,3,none⟩=false:=frozen_of_row w1 _ _ _ _ hb2;have g4:w1.frozen? ⟨w.heap.size+1,4,none⟩=false:=frozen_of_row w1 _ _ _ _ hb2;have g5:w1.frozen? ⟨w.heap.size+1,5,none⟩=false:=frozen_of_row w1 _ _ _ _ hb2;have g6:w1.frozen? ⟨w.heap.size+1,6,none⟩=false:=frozen_of_row w1 _ _ _ _ hb2;have g7:w1.frozen? ⟨w.heap.size+1,7,none⟩=false:=frozen_of_row w1 _ _ _ _ hb2;have g8:w1.frozen? ⟨w.heap.size+1,8,none⟩=false:=frozen_of_row w1 _ _ _ _ hb2;clear hb1 hb2;replace lt1:=Zq lt1;go_wp2;refine bodyPost_ret (v:=.agg #[.int .i64 x.k,.int .i64 x.p,.bool x.f,.int .i64 x.g,.slice A' x.m cap,.int .i64 x.a,.int .i64 x.h,.int .i64 x.d,.int .i64 x.t]) (by simp[results,Tryz.results99,go_sem, *]) rfl ⟨A',cap,rfl,?_,?_⟩
 ·have K1:=K1.out
  repeat (refine Keep.set ?_ (by simp) _)
  exact K1
 ·have kk:Hid (w.heap.size+1+1<=w1.heap.size):=lt1
  have own2:=hown.out;have nil2:A'=none->x.m=0/\cap=0:=fun h=>by
   obtain⟨B,c2,e,h0⟩:=zan own2;simp only[Value.slice.injEq] at e;obtain⟨rfl,_,rfl⟩:=e;exact h0 h
  refine(fun own3=>⟨⟨znj (cap:=cap) own3 hx.out.rd.small hx.out.rd.range,nil2,hx.out.rng⟩,zbx own3 (by omega)⟩) (?_:World.ownsRow _ (w.heap.size+1+1) 2 1 (.slice A' x.m cap) x.m (zba x.m x.Z))
  repeat (refine ownsRow_setCell_below ?_ (by first | omega | (simp;omega) | simp) _)
  exact own2
theorem zdt(x:zaa)(w:World)(hx:zah w x)(hm:x.m<=1000):
  Calls Tryz.prog 99 #[x.val] w fun e w'=>∃ A c,e=.returned (x.at A c).val/\Req w' w.heap.size (x.at A c)/\zcy (x.at A c)/\zah w' (x.at A c)/\Keep w w' :=
 (ahn x w hx (by omega)).mono fun _ _ ⟨A,c,he,k,i,o⟩=>⟨A,c,he,o,i.ok,i,k⟩
end Go.Proofs.YtcogiogjpbkeaaaGreatDoor.T13
namespace Go.Proofs.YtcogiogjpbkeaaaGreatDoor.T13
open Go.RowKit Go.Sort Go.Lib V12
theorem own_base'{w:World}{b b':Nat}{x:zaa}(h:Req w b x)(hb:b'<=b):Req w b' x:=zbx h hb
set_option maxRecDepth 100000 in
set_option maxHeartbeats 1000000 in
theorem aky(s:Int)(w:World)(hs:I64 s):Calls Tryz.prog 53 #[.int .i64 s] w fun e w'=>∃ q t m,e=.returned (.pointer (some ⟨q,0,none⟩))/\ST w' w.heap.size s q t m none 0 0 (fun _=>zaf)/\Keep w w':=by
 have hN:=Zq (aei s hs w)
 go_enter Tryz.func53,Tryz.ntmps53
 go_wp2_with fail;refine hN.out.mono ?_;rintro e w1 ⟨t,rfl,m,T,k,h1,h2⟩;replace T:=Zq T;replace k:=Zq k;have h1:=Zq h1;have h2:=Zq h2;go_wp2;go_ret
 have k2:=Keep.one w1 (.cells #[.slice none 0 0,.pointer (some ⟨t,0,none⟩)] 139);exact⟨_,t,m,rfl,⟨heap_alloc_new _ _,T.out.keep k2,zas.nil _ _ _,k.out.size,h1.out,h2.out,LOk.nil⟩,k.out.trans k2⟩
section
variable{w w':World}{b0:Nat}{s:Int}{q t m:Nat}{A:Option Addr}{c n:Nat}{P:Nat->zaa}
set_option maxHeartbeats 1000000 in
theorem ziy(h:ST w b0 s q t m A c n P){j:Nat}(hj:j<n):Calls Tryz.prog 109 #[.pointer (some ⟨q,0,none⟩),.int .i64 (P j).k] w fun e w'=>e=.returned (.tuple #[.int .i64 j,.bool true])/\w=w':=by
 have hG:=Zq (zvp h.tb (P j).k j (h.look_in hj));have c1:=h.c1;clear h;generalize (P j).k=id at *
 go_enter Tryz.func109,Tryz.ntmps109
 go_wp2_with (go_at_call 138;refine hG.out.mono ?_;rintro e w' ⟨rfl,rfl⟩)
 go_ret2
 exact⟨rfl,rfl⟩
set_option maxHeartbeats 1000000 in
theorem zlj(h:ST w b0 s q t m A c n P){id:Int}(hk:id∉keys (lst P n)):Calls Tryz.prog 109 #[.pointer (some ⟨q,0,none⟩),.int .i64 id] w fun e w'=>e=.returned (.tuple #[.int .i64 0,.bool false])/\w=w':=by
 have hG:=Zq (zvo h.tb id (zfi hk));have c1:=h.c1;clear h hk
 go_enter Tryz.func109,Tryz.ntmps109
 go_wp2_with (go_at_call 138;refine hG.out.mono ?_;rintro e w' ⟨rfl,rfl⟩)
 go_ret2
 exact⟨rfl,rfl⟩
theorem ST.at(h:ST w b0 s q t m A c n P){j:Nat}(hj:j<n):∃ g,A=some ⟨g,0,none⟩/\zcr w g (0+j * 9) (P j)/\Typ w g 26/\(Value.slice A n c).ownBlock=some g:=by
 obtain⟨g,cap,e,_,_⟩:=h.rp.row.form (by omega)
 simp only[Value.slice.injEq] at e;obtain⟨rfl,_,rfl⟩:=e;exact⟨g,rfl,zcg h.rp.row hj,h.tg rfl,rfl⟩
theorem ST.pod(h:ST w b0 s q t m A c n P){j:Nat}(hj:j<n):zah w (P j):=(h.rp.own j hj).is (h.rp.ok j hj)
set_option maxRecDepth 100000 in
set_option maxHeartbeats 4000000 in
theorem abq(h:ST w b0 s q t m A c n P){j:Nat}(hj:j<n)(hm:(P j).m<=1000):Calls Tryz.prog 102 #[.pointer (some ⟨q,0,none⟩),.int .i64 (P j).k] w fun e w'=>∃ B d,e=.returned (.tuple #[((P j).at B d).val,.bool true])/\Req w' w.heap.size ((P j).at B d)/\zcy ((P j).at B d)/\Keep w w':=by
 obtain⟨W,hW⟩:=Zn (w.alloc (.cells (zac zaf) 26));have KW:Hid (Keep w W):=by rw[hW];exact Keep.one _ _
 obtain⟨b,hb⟩:=Zn (w.heap.size);have Y:Hid (W.heap[b]?=some (.cells (zac zaf) 26 (0,0))):=by rw[hW,hb];exact heap_alloc_new _ _
 have hsz:Hid (W.heap.size=b+1):=by show _=_;rw[hW,World.size_alloc,hb]
 have h1:=h.keep KW.out;have hF:=Zq (ziy h1 hj);have cC:=zdt (P j) W (h1.pod hj) hm;have c0:=h1.c0;obtain⟨g,hA,X,_,_⟩:=h1.at hj;subst hA;have q1:=zar g 0 n c j hj;obtain⟨x,hx⟩:=Zn (P j);rw[<- hx] at hF cC X ⊢;obtain⟨x0,x1,x2,x3,x4,x5,x6,x7,x8⟩:=X;rw[Nat.zero_add] at x0 x1 x2 x3 x4 x5 x6 x7 x8 q1;replace hx:=Zq hx;have hbw:Hid (w.heap.size<=b):=by show _<=_;omega
 unfold zaa.at zaa.val at cC ⊢;replace cC:=Zq cC;unfold zac zaf at hW;clear h h1 hm
 go_enter Tryz.func102,Tryz.ntmps102
 go_wp2_with fail;rw[<- hW,<- hb];replace hW:=Zq hW;replace hb:=Zq hb;refine hF.out.mono ?_;rintro e w1 ⟨rfl,rfl⟩;go_wp2_with fail;refine cC.out.mono ?_;rintro e w1 ⟨B,d,rfl,R,ok,_,k⟩;have Y1:=k.block Y.out;obtain⟨d0,d1,d2,d3,d4,d5,d6,d7,d8,g0⟩:=zae Y1;unfold zaf at d0 d1 d2 d3 d4 d5 d6 d7 d8;have y:=x.at B d;have B5:Hid ((put9 w1 b (x.at B d)).heap[b]?=some (.cells (zac (x.at B d)) 26 (0,0))):=zcp _ zaf Y1;have K5:Hid (Keep w (put9 w1 b (x.at B d))):=zdi _ (KW.out.trans k) hbw.out;have R5:Hid (Req (put9 w1 b (x.at B d)) w.heap.size (x.at B d)):=by
  refine own_base' (b:=W.heap.size) ?_ KW.out.size;refine zao R fun g hg=>zdd _ ?_
  have:=(R.lt g hg).1;have:=hsz.out;omega
 have ok:=Zq ok;clear R k Y1 x0 x1 x2 x3 x4 x5 x6 x7 x8 c0 q1;go_wp2;obtain⟨e0,e1,e2,e3,e4,e5,e6,e7,e8,_⟩:=zae B5.out;unfold put9 zaa.at at *;refine bodyPost_ret (v:=.tuple #[.agg #[.int .i64 x.k,.int .i64 x.p,.bool x.f,.int .i64 x.g,.slice B x.m d,.int .i64 x.a,.int .i64 x.h,.int .i64 x.d,.int .i64 x.t],.bool true]) (by simp[results,Tryz.results102,go_sem,e0,e1,e2,e3,e4,e5,e6,e7,e8]) rfl ⟨B,d,rfl,R5.out,ok.out,K5.out⟩
set_option maxRecDepth 100000 in
set_option maxHeartbeats 4000000 in
theorem zyp(h:ST w b0 s q t m A c n P){id:Int}(hk:id∉keys (lst P n)):Calls Tryz.prog 102 #[.pointer (some ⟨q,0,none⟩),.int .i64 id] w fun e w'=>e=.returned (.tuple #[zaf.val,.bool false])/\Keep w w':=by
 obtain⟨W,hW⟩:=Zn (w.alloc (.cells (zac zaf) 26));have KW:Hid (Keep w W):=by rw[hW];exact Keep.one _ _
 obtain⟨b,hb⟩:=Zn (w.heap.size);have Y:W.heap[b]?=some (.cells (zac zaf) 26 (0,0)):=by rw[hW,hb];exact heap_alloc_new _ _
 have hF:=Zq (zlj (h.keep KW.out) hk);have B5:Hid ((put9 W b zaf).heap[b]?=some (.cells (zac zaf) 26 (0,0))):=zcp _ zaf Y;have K5:Hid (Keep w (put9 W b zaf)):=zdi _ KW.out (by omega)
 obtain⟨d0,d1,d2,d3,d4,d5,d6,d7,d8,g0⟩:=zae Y;unfold zaf at d0 d1 d2 d3 d4 d5 d6 d7 d8;unfold zac zaf at hW;unfold zaa.val zaf;replace Y:=Zq Y;clear h hk
 go_enter Tryz.func102,Tryz.ntmps102
 go_wp2_with fail;rw[<- hW,<- hb];replace hW:=Zq hW;replace hb:=Zq hb;refine hF.out.mono ?_;rintro e w1 ⟨rfl,rfl⟩;go_wp2;obtain⟨e0,e1,e2,e3,e4,e5,e6,e7,e8,_⟩:=zae B5.out;unfold put9 zaf at *;refine bodyPost_ret (v:=.tuple #[.agg #[.int .i64 0,.int .i64 0,.bool false,.int .i64 0,.slice none 0 0,.int .i64 0,.int .i64 0,.int .i64 0,.int .i64 0],.bool false]) (by simp[results,Tryz.results102,go_sem,e0,e1,e2,e3,e4,e5,e6,e7,e8]) rfl ⟨rfl,K5.out⟩
end
end Go.Proofs.YtcogiogjpbkeaaaGreatDoor.T13
