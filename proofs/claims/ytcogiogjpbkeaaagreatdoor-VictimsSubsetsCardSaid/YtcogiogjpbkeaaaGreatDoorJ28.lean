/-
  The program's changes answers a map that says what the table says. No condition.
  The program's Next and Run say what the table says. No condition.
  The store's row with a field changed; phase.Next. No condition.
  The store: Apply where there is no such pod, or the event does not apply; the nil store's. No condition.
  The store: Submit where the pod is not added. Condition: errors.errorType holds its own.
-/
import Derived.Test.YtcogiogjpbkeaaaGreatDoorJ0
import Derived.Test.YtcogiogjpbkeaaaGreatDoorJ27
namespace Go.Proofs.YtcogiogjpbkeaaaGreatDoor
open Go.RowKit Go.Extern.Stop Go.Stop Go.Extern
theorem ztx(w:World):Calls Tryz.prog 137 #[] w fun e w'=>∃ B,e=.returned (.map (some B))/\Says w' B/\Keep w w':=by
 go_enter Tryz.func137,Tryz.ntmps137
 go_wp2;refine wp_region_any (by kernel_rfl) ?_
 change wpAny _ _ _ _ _ _ _ (World.drew _)
 refine wpAny_take (i:=1) (v:=.agg #[.int .i64 1,.int .i64 1]) rfl (by kernel_rfl) (by kernel_rfl) (by kernel_rfl) (fun _ _ _ h=>h) (Or.inl ⟨by rfl,by intro w;go_simp⟩) ?_
 refine wpAny_take (i:=3) (v:=.agg #[.int .i64 2,.int .i64 1]) rfl (by kernel_rfl) (by kernel_rfl) (by kernel_rfl) (fun _ _ _ h=>h) (Or.inl ⟨by rfl,by intro w;go_simp⟩) ?_
 refine wpAny_take (i:=5) (v:=.agg #[.int .i64 1,.int .i64 2]) rfl (by kernel_rfl) (by kernel_rfl) (by kernel_rfl) (fun _ _ _ h=>h) (Or.inl ⟨by rfl,by intro w;go_simp⟩) ?_
 refine wpAny_take (i:=7) (v:=.agg #[.int .i64 2,.int .i64 2]) rfl (by kernel_rfl) (by kernel_rfl) (by kernel_rfl) (fun _ _ _ h=>h) (Or.inl ⟨by rfl,by intro w;go_simp⟩) ?_
 refine wpAny_take (i:=9) (v:=.agg #[.int .i64 2,.int .i64 3]) rfl (by kernel_rfl) (by kernel_rfl) (by kernel_rfl) (fun _ _ _ h=>h) (Or.inl ⟨by rfl,by intro w;go_simp⟩) ?_
 refine wpAny_take (i:=11) (v:=.agg #[.int .i64 3,.int .i64 4]) rfl (by kernel_rfl) (by kernel_rfl) (by kernel_rfl) (fun _ _ _ h=>h) (Or.inl ⟨by rfl,by intro w;go_simp⟩) ?_
 refine wpAny_take (i:=13) (v:=.agg #[.int .i64 1,.int .i64 5]) rfl (by kernel_rfl) (by kernel_rfl) (by kernel_rfl) (fun _ _ _ h=>h) (Or.inl ⟨by rfl,by intro w;go_simp⟩) ?_
 refine wpAny_take (i:=15) (v:=.agg #[.int .i64 2,.int .i64 5]) rfl (by kernel_rfl) (by kernel_rfl) (by kernel_rfl) (fun _ _ _ h=>h) (Or.inl ⟨by rfl,by intro w;go_simp⟩) ?_
 refine wpAny_take (i:=17) (v:=.agg #[.int .i64 3,.int .i64 5]) rfl (by kernel_rfl) (by kernel_rfl) (by kernel_rfl) (fun _ _ _ h=>h) (Or.inl ⟨by rfl,by intro w;go_simp⟩) ?_
 refine wpAny_take (i:=19) (v:=.agg #[.int .i64 4,.int .i64 5]) rfl (by kernel_rfl) (by kernel_rfl) (by kernel_rfl) (fun _ _ _ h=>h) (Or.inl ⟨by rfl,by intro w;go_simp⟩) ?_
 refine wpAny_ready (rs:=[0]) (by kernel_rfl) (by simp) ?_
 refine AllReady.cons rfl (fun K hK=>?_) AllReady.nil
 go_simp
 refine hK _ _ ?_;clear hK K;have h0:Keep w (w.drew.alloc (.map #[] 0)):=(Keep.refl w).drew.alloc _;have hm:=ahc w.drew;refine fill (W:=w) (B:=w.heap.size) (Nat.le_refl _) rfl (fun j hj=>?_) (fun w' hs hk=>?_) 10 (fun _=>false) [] _ rfl hm (fun x=>?_) h0
 ·rcases zlt hj with rfl | rfl | rfl | rfl | rfl | rfl | rfl | rfl | rfl | rfl<;>rfl
 ·clear h0 hm
  refine wpAny_take (i:=21) (v:=.map (some w.heap.size)) rfl (by kernel_rfl) (by kernel_rfl) (by kernel_rfl) (fun _ _ _ h=>h) (Or.inl ⟨by rfl,fun _=>rfl⟩) ?_
  refine wpAny_take (i:=22) (v:=.map (some w.heap.size)) rfl (by kernel_rfl) (by kernel_rfl) (by kernel_rfl) (fun _ _ _ h=>h) (Or.inl ⟨by rfl,fun _=>rfl⟩) ?_
  refine wpAny_done (by kernel_rfl) ?_ _
  go_wp2;go_ret
  exact⟨_,rfl,hs,hk⟩
 ·simp
end Go.Proofs.YtcogiogjpbkeaaaGreatDoor
namespace Go.Proofs.YtcogiogjpbkeaaaGreatDoor
open Go.RowKit Go.Extern.Stop Go.Stop Go.Extern
theorem ahh(p e:Int)(w:World):Calls Tryz.prog 106 #[.int .i64 p,.int .i64 e] w fun r w'=>r=.returned (.tuple #[.int .i64 (nxt p e),.bool (decide (nxt p e≠0))])/\Keep w w':=by
 go_enter Tryz.func106,Tryz.ntmps106
 go_wp2_with fail;refine(ztx w).mono ?_;rintro r w1 ⟨B,rfl,hs,k⟩;have hl:=zzd hs p e;unfold kv at hl;obtain⟨x,hx⟩:=Zn (nxt p e);obtain⟨y,hy⟩:=Zn (decide (nxt p e≠0));rw[<- hy,<- hx] at hl;replace hx:=Zq hx;replace hy:=Zq hy;replace hs:=Zq hs;replace k:=Zq k;go_wp2;go_ret2
 exact⟨by rw[<- hy.out,<- hx.out];rfl,k.out⟩
end Go.Proofs.YtcogiogjpbkeaaaGreatDoor
namespace Go.Proofs.YtcogiogjpbkeaaaGreatDoor.T13
open Go.RowKit Go.Sort Go.Lib V12
set_option maxRecDepth 100000 in
theorem akw(p e:Int):nxt p e=nx p e:=by
 by_cases h:(1<=p/\p<=4)/\(1<=e/\e<=5)
 ·obtain⟨⟨h1,h2⟩,h3,h4⟩:=h
  have hp:p=1\/p=2\/p=3\/p=4:=by omega
  have he:e=1\/e=2\/e=3\/e=4\/e=5:=by omega
  rcases hp with rfl | rfl | rfl | rfl<;>rcases he with rfl | rfl | rfl | rfl | rfl<;>decide
 ·have h1:look tab p e=none:=zmy fun v hv=>h (by
   have hall:∀ x∈tab,(1<=x.1/\x.1<=4)/\(1<=x.2.1/\x.2.1<=5):=by decide
   exact hall _ hv)
  have h2:nx p e=0:=by
   unfold nx
   repeat' split
   all_goals first | rfl | (exfalso;omega)
  rw[h2];unfold nxt;rw[h1];rfl
theorem zic(p e:Int)(w:World):Calls Tryz.prog 106 #[.int .i64 p,.int .i64 e] w fun r w'=>r=.returned (.tuple #[.int .i64 (nx p e),.bool (decide (nx p e≠0))])/\Keep w w':=by
 rw[<- akw];exact ahh p e w
theorem zow{P:Nat->zaa}{n j i:Nat}(hj:j<n)(hi:i<9){x:zaa}{u:Value}(hx:x.cells=(P j).cells.set i u):zaj (put P j x) n=(zaj P n).set (j * 9+i) u:=by
 refine List.ext_getElem? fun t=>?_
 rw[List.getElem?_set]
 by_cases ht:t<n * 9
 ·have h1:t / 9<n:=by omega
  have h2:t % 9<9:=Nat.mod_lt _ (by omega)
  have e1:=zfe (put P j x) n (t / 9) (t % 9) h1 h2;have e2:=zfe P n (t / 9) (t % 9) h1 h2;rw[show t / 9 * 9+t % 9=t by omega] at e1 e2
  rw[e1,e2,zaz]
  by_cases e:t / 9=j
  ·rw[e,zat,hx,List.getElem?_set,zmn]
   by_cases e3:i=t % 9
   ·rw[if_pos e3,if_pos hi,if_pos (by omega),if_pos (by omega)]
   ·rw[if_neg e3,if_neg (by omega)]
  ·rw[zbj _ _ _ e,if_neg (by omega)]
 ·rw[List.getElem?_eq_none (by rw[zaz];omega),zaz,if_neg (by omega),List.getElem?_eq_none (by rw[zaz];omega)]
theorem zas.field{w:World}{b0 g c n j i:Nat}{P:Nat->zaa}(h:zas w b0 (.slice (some ⟨g,0,none⟩) n c) n P)(hj:j<n)(hi:i<9){x:zaa}{u:Value}(hx:x.cells=(P j).cells.set i u)(hr:x.A=(P j).A/\x.m=(P j).m/\x.c=(P j).c/\x.Z=(P j).Z)(ok:zcy x):zas (w.setCell ⟨g,j * 9+i,none⟩ u) b0 (.slice (some ⟨g,0,none⟩) n c) n (put P j x) where
 row:=by rw[zow hj hi hx];exact(h.row.stored (j * 9+i) u).1
 own:=fun t ht=>by
  have key:∀ s,s<n->Req (w.setCell ⟨g,j * 9+i,none⟩ u) b0 (P s):=fun s hs=>zao (h.own s hs) fun k hk=>Below.heap_setCell _ _ _ _ fun e=>by
   have:=zck (zcn (h.own s hs) hk) (e▸zcn h.row rfl);exact absurd this (by decide)
  by_cases e:t=j
  ·subst e
   rw[zat];have:=key t hj;unfold Req at this ⊢;rw[hr.1,hr.2.1,hr.2.2.1,hr.2.2.2];exact this
  ·rw[zbj _ _ _ e];exact key t ht
 ok:=fun t ht=>by
  by_cases e:t=j
  ·subst e;rw[zat];exact ok
  ·rw[zbj _ _ _ e];exact h.ok t ht
theorem zkt(P:Nat->zaa)(j:Nat)(x y:zaa):put (put P j x) j y=put P j y:=by
 funext t
 unfold put
 split<;>rfl
def chg(x:zaa)(h d t:Int):zaa:={ x with h:=h,d:=d,t:=t }
theorem zty{x:zaa}(o:zcy x){h d t:Int}(h1:I64 h)(h2:I64 d)(h3:I64 t):zcy (chg x h d t):=⟨o.small,o.range,o.nil,o.rng.1,o.rng.2.1,o.rng.2.2.1,o.rng.2.2.2.1,h1,h2,h3⟩
theorem zas.chg6{w:World}{b0 g c n j:Nat}{P:Nat->zaa}(h:zas w b0 (.slice (some ⟨g,0,none⟩) n c) n P)(hj:j<n){a:Int}(ha:I64 a):zas (w.setCell ⟨g,j * 9+6,none⟩ (.int .i64 a)) b0 (.slice (some ⟨g,0,none⟩) n c) n (put P j (chg (P j) a (P j).d (P j).t)):=
 h.field hj (by omega) rfl ⟨rfl,rfl,rfl,rfl⟩ (zty (h.ok j hj) ha (h.ok j hj).rng.2.2.2.2.2.1 (h.ok j hj).rng.2.2.2.2.2.2)
theorem zas.chg7{w:World}{b0 g c n j:Nat}{P:Nat->zaa}(h:zas w b0 (.slice (some ⟨g,0,none⟩) n c) n P)(hj:j<n){a:Int}(ha:I64 a):zas (w.setCell ⟨g,j * 9+7,none⟩ (.int .i64 a)) b0 (.slice (some ⟨g,0,none⟩) n c) n (put P j (chg (P j) (P j).h a (P j).t)):=
 h.field hj (by omega) rfl ⟨rfl,rfl,rfl,rfl⟩ (zty (h.ok j hj) (h.ok j hj).rng.2.2.2.2.1 ha (h.ok j hj).rng.2.2.2.2.2.2)
theorem zas.chg8{w:World}{b0 g c n j:Nat}{P:Nat->zaa}(h:zas w b0 (.slice (some ⟨g,0,none⟩) n c) n P)(hj:j<n){a:Int}(ha:I64 a):zas (w.setCell ⟨g,j * 9+8,none⟩ (.int .i64 a)) b0 (.slice (some ⟨g,0,none⟩) n c) n (put P j (chg (P j) (P j).h (P j).d a)):=
 h.field hj (by omega) rfl ⟨rfl,rfl,rfl,rfl⟩ (zty (h.ok j hj) (h.ok j hj).rng.2.2.2.2.1 (h.ok j hj).rng.2.2.2.2.2.1 ha)
theorem zas.set3{w:World}{b0 g c n j:Nat}{P:Nat->zaa}(h:zas w b0 (.slice (some ⟨g,0,none⟩) n c) n P)(hj:j<n){a d:Int}(ha:I64 a)(hd:I64 d):zas (((w.setCell ⟨g,j * 9+6,none⟩ (.int .i64 a)).setCell ⟨g,j * 9+8,none⟩ (.int .i64 (-1))).setCell ⟨g,j * 9+7,none⟩ (.int .i64 d)) b0 (.slice (some ⟨g,0,none⟩) n c) n (put P j (chg (P j) a d (-1))):=by
 have h1:=((h.chg6 hj ha).chg8 hj (a:=-1) (by unfold I64;omega)).chg7 hj hd
 simp only[zat,zkt] at h1;exact h1
theorem zas.setT{w:World}{b0 g c n j:Nat}{P:Nat->zaa}(h:zas w b0 (.slice (some ⟨g,0,none⟩) n c) n P)(hj:j<n){a t:Int}(ha:I64 a)(ht:I64 t):zas (((w.setCell ⟨g,j * 9+6,none⟩ (.int .i64 a)).setCell ⟨g,j * 9+8,none⟩ (.int .i64 (-1))).setCell ⟨g,j * 9+8,none⟩ (.int .i64 t)) b0 (.slice (some ⟨g,0,none⟩) n c) n (put P j (chg (P j) a (P j).d t)):=by
 have h1:=((h.chg6 hj ha).chg8 hj (a:=-1) (by unfold I64;omega)).chg8 hj ht
 simp only[zat,zkt] at h1;exact h1
theorem zjj{w:World}{D:Nat->Prop}{g i1 i2 i3:Nat}{u1 u2 u3:Value}(hD:D g):Fr D w (((w.setCell ⟨g,i1,none⟩ u1).setCell ⟨g,i2,none⟩ u2).setCell ⟨g,i3,none⟩ u3):=
 (((Fr.refl D w).set (by left;exact hD) u1).set (by left;exact hD) u2).set (by left;exact hD) u3
section
variable{w w':World}{b0:Nat}{s:Int}{q t m:Nat}{A:Option Addr}{c n:Nat}{P:Nat->zaa}
theorem zqf(h:ST w b0 s q t m A c n P){j:Nat}(hj:j<n){e nd dl:Int}(hx:nx (P j).h e≠0):(lst (put P j (zay (P j) e nd dl)) n).map nm=zde ((lst P n).map nm) (P j).k e nd dl/\zca ((lst P n).map nm) (P j).k e=0:=by
 have hc:zca ((lst P n).map nm) (P j).k e=0:=by
  unfold zca;rw[zbq,<- zhn,h.get hj,if_neg (not_not_intro (aki hj)),if_neg (show ¬nx (nm (P j)).h e=0 from hx)]
 refine⟨?_,hc⟩;unfold zde;rw[if_pos hc];unfold lst;rw[List.map_map,List.map_map,List.map_map];refine List.map_congr_left fun i hi=>?_
 show nm (put P j (zay (P j) e nd dl) i)=if (nm (P i)).k=(P j).k then zay (nm (P i)) e nd dl else nm (P i)
 by_cases e1:i=j
 ·rw[e1,zat,akq,if_pos rfl,zqh]
 ·rw[zbj _ _ _ e1,akq,if_neg fun e2=>e1 (h.uniq (List.mem_range.1 hi) hj e2)]
theorem ST.app(h:ST w b0 s q t m A c n P){j:Nat}(hj:j<n){e nd dl:Int}(hx:nx (P j).h e≠0)(f:Fr (fun i=>(Value.slice A n c).ownBlock=some i) w w')(hr:zas w' b0 (.slice A n c) n (put P j (zay (P j) e nd dl))):ST w' b0 s q t m A c n (put P j (zay (P j) e nd dl)):=by
 have nq:¬(Value.slice A n c).ownBlock=some q:=fun e=>absurd (zck (h.tg e) h.tq) (by decide)
 have nt:¬(Value.slice A n c).ownBlock=some t:=fun e=>absurd (zck (h.tg e) h.tt) (by decide)
 have nm':¬(Value.slice A n c).ownBlock=some m:=fun e=>h.offT (h.tg e) rfl
 have ep:prs (put P j (zay (P j) e nd dl)) n=prs P n:=zoz fun i hi=>by
  by_cases e1:i=j
  ·rw[e1,zat];rfl
  ·rw[zbj _ _ _ e1]
 refine⟨(f.block _ (zcl h.hq) nq).trans h.hq,?_,hr,h.bq,h.bt,h.bm,?_⟩
 ·rw[ep];exact h.tb.fr f nt nm'
 ·rw[(zqf h hj hx).1]
  exact zpp h.lk
end
end Go.Proofs.YtcogiogjpbkeaaaGreatDoor.T13
namespace Go.Proofs.YtcogiogjpbkeaaaGreatDoor.T13
open Go.RowKit Go.Sort Go.Lib V12
section
variable{w w':World}{b0:Nat}{s:Int}{q t m:Nat}{A:Option Addr}{c n:Nat}{P:Nat->zaa}
set_option maxRecDepth 100000 in
set_option maxHeartbeats 4000000 in
theorem zli(h:ST w b0 s q t m A c n P){id:Int}(hk:id∉keys (lst P n))(ev nd dl:Int):Calls Tryz.prog 67 #[.pointer (some ⟨q,0,none⟩),.int .i64 id,.int .i64 ev,.int .i64 nd,.int .i64 dl] w fun e w'=>e=.returned (.tuple #[zaf.val,flt 5 0])/\Keep w w':=by
 obtain⟨W,hW⟩:=Zn (w.alloc (.cells (zac zaf) 26));have KW:Hid (Keep w W):=by rw[hW];exact Keep.one _ _
 obtain⟨b,hb⟩:=Zn (w.heap.size);have Y:W.heap[b]?=some (.cells (zac zaf) 26 (0,0)):=by rw[hW,hb];exact heap_alloc_new _ _
 have hF:=Zq (zlj (h.keep KW.out) hk);have hE:=Zq (fun W=>zgd 5 0 W)
 have B5:Hid ((put9 W b zaf).heap[b]?=some (.cells (zac zaf) 26 (0,0))):=zcp _ zaf Y;have K5:Hid (Keep w (put9 W b zaf)):=zdi _ KW.out (by omega)
 obtain⟨d0,d1,d2,d3,d4,d5,d6,d7,d8,g0⟩:=zae Y;unfold zaf at d0 d1 d2 d3 d4 d5 d6 d7 d8;unfold zac zaf at hW;unfold zaa.val zaf flt;unfold Base.val at *;replace Y:=Zq Y;clear h hk
 go_enter Tryz.func67,Tryz.ntmps67
 go_wp2_with fail;rw[<- hW,<- hb];replace hW:=Zq hW;replace hb:=Zq hb;refine hF.out.mono ?_;rintro e w1 ⟨rfl,rfl⟩;go_wp2_with fail;refine(hE.out _).mono ?_;rintro e w1 ⟨rfl,rfl⟩;go_wp2;obtain⟨e0,e1,e2,e3,e4,e5,e6,e7,e8,_⟩:=zae B5.out;unfold put9 zaf at *;refine bodyPost_ret (v:=.tuple #[.agg #[.int .i64 0,.int .i64 0,.bool false,.int .i64 0,.slice none 0 0,.int .i64 0,.int .i64 0,.int .i64 0,.int .i64 0],.iface 148 (.agg #[.int .i64 5,.int .i64 0])]) (by simp[results,Tryz.results67,go_sem,e0,e1,e2,e3,e4,e5,e6,e7,e8]) rfl ⟨rfl,K5.out⟩
set_option maxRecDepth 100000 in
set_option maxHeartbeats 4000000 in
theorem zlh(h:ST w b0 s q t m A c n P){j:Nat}(hj:j<n)(ev nd dl:Int)(hx:nx (P j).h ev=0):Calls Tryz.prog 67 #[.pointer (some ⟨q,0,none⟩),.int .i64 (P j).k,.int .i64 ev,.int .i64 nd,.int .i64 dl] w fun e w'=>e=.returned (.tuple #[zaf.val,flt 8 0])/\Keep w w':=by
 obtain⟨W,hW⟩:=Zn (w.alloc (.cells (zac zaf) 26));have KW:Hid (Keep w W):=by rw[hW];exact Keep.one _ _
 obtain⟨b,hb⟩:=Zn (w.heap.size);have Y:Hid (W.heap[b]?=some (.cells (zac zaf) 26 (0,0))):=by show _=_;rw[hW,hb];exact heap_alloc_new _ _
 have h1:=h.keep KW.out;have hF:=Zq (ziy h1 hj);have hN:=Zq (fun W=>zic (P j).h ev W)
 have hE:=Zq (fun W=>zgd 8 0 W)
 have c0:=h1.c0;obtain⟨g,hA,X,_,hown⟩:=h1.at hj;subst hA;have q1:=zar g 0 n c j hj;obtain⟨x,hxx⟩:=Zn (P j);rw[<- hxx] at hF hN X hx ⊢;have x6:=X.e6;rw[Nat.zero_add] at x6 q1;have hd:decide (nx x.h ev≠0)=false:=decide_eq_false (not_not_intro hx);rw[hd,hx] at hN;have hbw:Hid (w.heap.size<=b):=by show _<=_;omega
 replace hxx:=Zq hxx;unfold zac zaf at hW;unfold zaa.val zaf flt;unfold Base.val at *;clear h h1 hx hd X
 go_enter Tryz.func67,Tryz.ntmps67
 go_wp2_with fail;rw[<- hW,<- hb];replace hW:=Zq hW;replace hb:=Zq hb;refine hF.out.mono ?_;rintro e w1 ⟨rfl,rfl⟩;go_wp2_with fail;refine(hN.out _).mono ?_;rintro e w1 ⟨rfl,k1⟩;have Y1:=k1.block Y.out;have B5:Hid ((put9 w1 b zaf).heap[b]?=some (.cells (zac zaf) 26 (0,0))):=zcp _ zaf Y1;have K5:Hid (Keep w (put9 w1 b zaf)):=zdi _ (KW.out.trans k1) hbw.out;obtain⟨d0,d1,d2,d3,d4,d5,d6,d7,d8,g0⟩:=zae Y1;unfold zaf at d0 d1 d2 d3 d4 d5 d6 d7 d8;clear x6 c0 q1 k1 Y1;go_wp2_with fail;refine(hE.out _).mono ?_;rintro e w2 ⟨rfl,rfl⟩;go_wp2;obtain⟨e0,e1,e2,e3,e4,e5,e6,e7,e8,_⟩:=zae B5.out;unfold put9 zaf at *;refine bodyPost_ret (v:=.tuple #[.agg #[.int .i64 0,.int .i64 0,.bool false,.int .i64 0,.slice none 0 0,.int .i64 0,.int .i64 0,.int .i64 0,.int .i64 0],.iface 148 (.agg #[.int .i64 8,.int .i64 0])]) (by simp[results,Tryz.results67,go_sem,e0,e1,e2,e3,e4,e5,e6,e7,e8]) rfl ⟨rfl,K5.out⟩
end
set_option maxRecDepth 100000 in
set_option maxHeartbeats 4000000 in
theorem zql(x:zaa)(w:World):Calls Tryz.prog 60 #[.pointer none,x.val] w fun e w'=>e=.returned (.tuple #[zaf.val,flt 5 0])/\Keep w w':=by
 obtain⟨W0,hW0⟩:=Zn (w.alloc (.cells (zac x) 26));obtain⟨W,hW⟩:=Zn (W0.alloc (.cells (zac zaf) 26));have KW:Hid (Keep w W):=by rw[hW,hW0];exact(Keep.one _ _).alloc _
 obtain⟨b,hb⟩:=Zn (w.heap.size+1);have hb0:W0.heap.size=b:=by rw[hW0,World.size_alloc,hb]
 have Y:W.heap[b]?=some (.cells (zac zaf) 26 (0,0)):=by rw[hW,<- hb0];exact heap_alloc_new _ _
 have hE:=Zq (fun W=>zgd 5 0 W)
 have B5:Hid ((put9 W b zaf).heap[b]?=some (.cells (zac zaf) 26 (0,0))):=zcp _ zaf Y;have K5:Hid (Keep w (put9 W b zaf)):=zdi _ KW.out (by omega)
 obtain⟨d0,d1,d2,d3,d4,d5,d6,d7,d8,g0⟩:=zae Y;unfold zaf at d0 d1 d2 d3 d4 d5 d6 d7 d8;unfold zac at hW hW0;unfold zaf at hW;unfold zaa.val zaf flt;unfold Base.val at *;replace Y:=Zq Y
 go_enter Tryz.func60,Tryz.ntmps60
 go_wp2_with fail;rw[<- hW0,<- hW,<- hb];replace hW:=Zq hW;replace hW0:=Zq hW0;replace hb:=Zq hb;replace hb0:=Zq hb0;refine(hE.out _).mono ?_;rintro e w2 ⟨rfl,rfl⟩;go_wp2;obtain⟨e0,e1,e2,e3,e4,e5,e6,e7,e8,_⟩:=zae B5.out;unfold put9 zaf at *;refine bodyPost_ret (v:=.tuple #[.agg #[.int .i64 0,.int .i64 0,.bool false,.int .i64 0,.slice none 0 0,.int .i64 0,.int .i64 0,.int .i64 0,.int .i64 0],.iface 148 (.agg #[.int .i64 5,.int .i64 0])]) (by simp[results,Tryz.results60,go_sem,e0,e1,e2,e3,e4,e5,e6,e7,e8]) rfl ⟨rfl,K5.out⟩
end Go.Proofs.YtcogiogjpbkeaaaGreatDoor.T13
namespace Go.Proofs.YtcogiogjpbkeaaaGreatDoor.T13
open Go.RowKit Go.Sort Go.Lib V12
section
variable{w w':World}{b0:Nat}{s:Int}{q t m:Nat}{A:Option Addr}{c n:Nat}{P:Nat->zaa}
def zzu(w:World)(t:Nat)(id k cc:Int):Prop:=∀ W,Keep w W->Calls Tryz.prog 98 #[.pointer (some ⟨t,0,none⟩),.int .i64 id,.int .i64 k] W fun e w'=>e=.returned (err cc)/\Keep W w'
set_option maxRecDepth 100000 in
set_option maxHeartbeats 8000000 in
theorem zlk(h:ST w b0 s q t m A c n P)(hg:zbk w)(x:zaa)(cc:Int)(hA:zzu w t x.k n cc):Calls Tryz.prog 60 #[.pointer (some ⟨q,0,none⟩),x.val] w fun e w'=>e=.returned (.tuple #[zaf.val,flt cc 0])/\Keep w w':=by
 have mixed:Tryz.prog.follows .mixedOrders=true:=by kernel_rfl
 obtain⟨W0,hW0⟩:=Zn (w.alloc (.cells (zac x) 26));obtain⟨W,hW⟩:=Zn (W0.alloc (.cells (zac zaf) 26));have KW:Hid (Keep w W):=by rw[hW,hW0];exact(Keep.one _ _).alloc _
 obtain⟨bx,hbx⟩:=Zn (w.heap.size);obtain⟨b,hb⟩:=Zn (w.heap.size+1);have hb0:W0.heap.size=b:=by rw[hW0,World.size_alloc,hb]
 have Y:Hid (W.heap[b]?=some (.cells (zac zaf) 26 (0,0))):=by show _=_;rw[hW,<- hb0];exact heap_alloc_new _ _
 have YX:W.heap[bx]?=some (.cells (zac x) 26 (0,0)):=by rw[hW,hW0,hbx];exact(Keep.one _ _).block (heap_alloc_new _ _)
 have hE:=Zq (fun W=>zgd cc 0 W)
 have x0:=(zae YX).e0;have h1:=h.keep KW.out;have c0:=h1.c0;have c1:=h1.c1;have GW:Hid (∀ W',Keep W W'->zbk W'):=fun W' k=>hg.keep (KW.out.trans k)
 have cA:Hid (∀ W',Keep W W'->Calls Tryz.prog 98 #[.pointer (some ⟨t,0,none⟩),.int .i64 x.k,.int .i64 n] W' fun e w'=>e=.returned (err cc)/\Keep W' w'):=fun W' k=>hA W' (KW.out.trans k)
 have cC:Hid (∀ W',Keep W W'->Calls Tryz.prog 97 #[err cc] W' fun e w'=>e=.returned (.tuple #[.int .i64 cc,.bool true])/\Keep W' w'):=fun W' k=>zrp cc [] (.code cc) _ W' (.base _) (Or.inl rfl) (GW.out W' k)
 have hbw:Hid (w.heap.size<=b):=by show _<=_;omega
 unfold zac at hW hW0;unfold zaf at hW;have c0e:=c0;rw[hW,hW0] at c0e;unfold zaa.val zaf flt;unfold Base.val at *;unfold err at cA cC;clear h h1 hg YX hA
 go_enter Tryz.func60,Tryz.ntmps60
 go_wp2_with fail;clear c0e;rw[<- hW0,<- hW,<- hb];try rw[<- hbx]
 replace hW:=Zq hW;replace hW0:=Zq hW0;replace hb:=Zq hb;replace hbx:=Zq hbx;replace hb0:=Zq hb0
 go_region_held3 (fun w'=>w'.cell? ⟨q,1,none⟩=some (.pointer (some ⟨t,0,none⟩))/\w'.cell? ⟨bx,0,none⟩=some (.int .i64 x.k))
  (first
   | ((refine(fun (KK:Keep W _)=>⟨KK.cell c1,KK.cell x0⟩) ?_;repeat (with_reducible first | exact Keep.refl W | apply Keep.drew | apply Keep.drewN | exact k6.out | exact k7.out));done))
  (first
   | (go_at_call 98;refine(cA.out _ (by repeat (with_reducible first | exact Keep.refl W | apply Keep.drew | apply Keep.drewN))).mono ?_;rintro e w6 ⟨rfl,k6⟩;replace k6:=Zq ((by repeat (with_reducible first | exact Keep.refl W | apply Keep.drew | apply Keep.drewN):Keep W _).trans k6))
   | (go_at_call 97;refine(cC.out _ (by repeat (with_reducible first | exact Keep.refl W | apply Keep.drew | apply Keep.drewN | exact k6.out))).mono ?_;rintro e w7 ⟨rfl,k7⟩;replace k7:=Zq ((by repeat (with_reducible first | exact Keep.refl W | apply Keep.drew | apply Keep.drewN | exact k6.out):Keep W _).trans k7)))
 all_goals
  have Y7:=k7.out.block Y.out;have B5:Hid ((put9 w7 b zaf).heap[b]?=some (.cells (zac zaf) 26 (0,0))):=zcp _ zaf Y7;have K5:Hid (Keep w (put9 w7 b zaf)):=zdi _ (KW.out.trans k7.out) hbw.out;obtain⟨d0,d1,d2,d3,d4,d5,d6,d7,d8,g0⟩:=zae Y7;unfold zaf at d0 d1 d2 d3 d4 d5 d6 d7 d8;clear c0 c1 x0 Y7 Y k6 k7 cA cC;go_wp2_with fail;refine(hE.out _).mono ?_;rintro e w8 ⟨rfl,rfl⟩;go_wp2;obtain⟨e0,e1,e2,e3,e4,e5,e6,e7,e8,_⟩:=zae B5.out;unfold put9 zaf at *;refine bodyPost_ret (v:=.tuple #[.agg #[.int .i64 0,.int .i64 0,.bool false,.int .i64 0,.slice none 0 0,.int .i64 0,.int .i64 0,.int .i64 0,.int .i64 0],.iface 148 (.agg #[.int .i64 cc,.int .i64 0])]) (by simp[results,Tryz.results60,go_sem,e0,e1,e2,e3,e4,e5,e6,e7,e8]) rfl ⟨rfl,K5.out⟩
theorem zxq(h:ST w b0 s q t m A c n P){id:Int}(hk:id∈keys (lst P n))(k:Int):zzu w t id k 6:=fun W kW=>by
 obtain⟨j,hj,e⟩:=zqc hk;have h1:=h.keep kW;refine(zzl h1.tb id k j (by rw[<- e];exact h1.look_in hj)).mono ?_
 rintro e w' ⟨rfl,rfl⟩;exact⟨rfl,Keep.refl _⟩
theorem ztr(h:ST w b0 s q t m A c n P){id:Int}(hk:id∉keys (lst P n))(hs:s<=n)(k:Int):zzu w t id k 7:=fun W kW=>by
 have h1:=h.keep kW;have hl:=h1.tb.len;rw[zju] at hl;refine(zvn h1.tb id k (zfi hk) ?_).mono ?_
 ·rw[zju]
  split at hl<;>split<;>omega
 ·rintro e w' ⟨rfl,d⟩
  exact⟨rfl,d.below⟩
end
end Go.Proofs.YtcogiogjpbkeaaaGreatDoor.T13
