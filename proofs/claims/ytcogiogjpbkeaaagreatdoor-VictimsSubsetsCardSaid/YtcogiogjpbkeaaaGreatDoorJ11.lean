/-
  The reference's Add of vectors. Conditions: at most 1048576 rows and elements.
  The reference's Place: Bind, Claim. Conditions: at most 100 pods; the cluster is in order; the dimension is at most 64.
-/
import Derived.Test.YtcogiogjpbkeaaaGreatDoorJ0
import Derived.Maps.AppendAt
import Derived.Test.YtcogiogjpbkeaaaGreatDoorJ10
import Derived.Test.YtcogiogjpbkeaaaGreatDoorJ9
namespace Go.Proofs.YtcogiogjpbkeaaaGreatDoor.R14
open Go.RowKit V12
theorem Tryz.infoR14:(Tryz.prog.info? 2).map (fun i=>(i.zero,i.size,i.bytes))=some (some (.int .i64 0),1,8):=by kernel_rfl
theorem zhw{w w':World}{a:Addr}{v:Value}(hb:Below w.heap.size w w')(hc:w.cell? a=some v):w'.cell? a=some v:=Go.Proofs.YtcogiogjpbkeaaaGreatDoor.Keep.cell (show Keep w w' from hb) hc
theorem zhz{w w':World}{a:Addr}{v:Value}(hb:Keep w w')(hc:w.cell? a=some v):w'.cell? a=some v:=zhw hb hc
theorem zal{w w':World}{base n:Nat}{e:TypeId}{z:Nat}{v:Value}{xs:List Value}(h:w.ownsRow base e z v n xs)(k:Keep w w'):w'.ownsRow base e z v n xs :=
 h.kept k.grown (Classical.em (v.ownBlock=none))
theorem zit{B:Nat}{w a b:World}(h:Below B w a)(hB:B<=a.heap.size)(k:Keep a b):Below B w b:=h.trans (Below.mono k hB)
theorem amq(n:Int)(w:World):Calls Tryz.prog 78 #[.int .i64 n] w fun e w'=>e=.returned (.agg #[.int .i64 (hi n),.int .i64 (lo n)])/\Keep w w':=amo n w
theorem akz(a b:Int)(w:World)(h1:-1152921504606846976<=hi a)(h2:hi a<=1152921504606846976)(h3:-1152921504606846976<=hi b)(h4:hi b<=1152921504606846976):
  Calls Tryz.prog 79 #[.agg #[.int .i64 (hi a),.int .i64 (lo a)],.agg #[.int .i64 (hi b),.int .i64 (lo b)]] w fun e w'=>e=.returned (.agg #[.int .i64 (hi (a+b)),.int .i64 (lo (a+b))])/\Keep w w':=aho a b w h1 h2 h3 h4
theorem aes(a:Int)(w:World)(h:-9223372036854775808<=a/\a<=9223372036854775807):
  Calls Tryz.prog 80 #[.agg #[.int .i64 (hi a),.int .i64 (lo a)]] w fun e w'=>e=.returned (.tuple #[.int .i64 a,.bool true])/\Keep w w':=zzr a w h.1 h.2
theorem aeq(a:Int)(w:World)(h:¬(-9223372036854775808<=a/\a<=9223372036854775807)):
  Calls Tryz.prog 80 #[.agg #[.int .i64 (hi a),.int .i64 (lo a)]] w fun e w'=>e=.returned (.tuple #[.int .i64 0,.bool false])/\Keep w w':=aer a w h
theorem akd{x:Int}(h:-9223372036854775808<=x/\x<=9223372036854775807):-2147483648<=hi x/\hi x<=2147483647:=by unfold hi;omega
def zzv(R:Nat)(len:Nat->Nat)(Z:Nat->Nat->Int)(w:World)(e:Ending)(w':World):Prop :=
 Below w.heap.size w w' /\
  ((zlb R len Z/\∃ A cap,e=.returned (.tuple #[.slice A (len 0) cap,.bool true])/\Rd w' A (len 0) (fun k=>sumTo R fun r=>Z r k)) \/
    (¬zlb R len Z/\e=.returned (.tuple #[.slice none 0 0,.bool false])))
def zsm(n:Int)(q:Nat):Value:=if q=0 then .int .i64 (hi n) else .int .i64 (lo n)
theorem zga{w w':World}{a:Addr}{v:Value}(hb:Keep w w')(hc:w.cell? a=some v)(hf:w.frozen? a=false):w'.frozen? a=false:=by
 rw[(show Below w.heap.size w w' from hb).frozen (World.block_lt_of_cell? _ _ hc)];exact hf
theorem num_row{w w':World}{b t:Nat}{n m:Int}(h:w.rowIs b t 2 (zsm n))(k:Keep w w'):
  ((w'.setCell ⟨b,0,none⟩ (.int .i64 (hi m))).setCell ⟨b,1,none⟩ (.int .i64 (lo m))).rowIs b t 2 (zsm m):=
 (((h.of_block (Below.block (show Below w.heap.size w w' from k) b h.lt)).set 0 _).set 1 _).congr (fun i hi=>by
   match i,hi with
   | 0,_=>rfl
   | 1,_=>rfl)
theorem aav{w w':World}{b:Nat}{x y:Value}(k:Keep w w')(hb:w.heap.size<=b):Keep w ((w'.setCell ⟨b,0,none⟩ x).setCell ⟨b,1,none⟩ y):=
 (Below.setCell (Below.setCell k hb x) hb y)
theorem agm{n:Int}(h:inR n=false):¬(-9223372036854775808<=n/\n<=9223372036854775807):=by unfold inR at h;exact of_decide_eq_false h
theorem ake{R:Nat}{f:Nat->Int}(h:∀ k,k<R->-9223372036854775808<=f k/\f k<=9223372036854775807)(hR:R<=1048576):-1152921504606846976<=hi (sumTo R f)/\hi (sumTo R f)<=1152921504606846976:=by
 have:=zti h;unfold hi;omega
set_option maxHeartbeats 4000000 in
theorem radd_some(L:Option Addr)(R C:Nat)(A:Nat->Option Addr)(len K:Nat->Nat)(Z:Nat->Nat->Int)(w:World)(hL:Rds w L R A len K Z)(hR:R<=1048576)(hlen:∀ r,r<R->len r<=1048576)(h0:0<R):
  Calls Tryz.prog 46 #[.slice L R C] w (zzv R len Z w):=by
 obtain⟨i0,hi0,hz0,hz1,hz2⟩:=info_parts Tryz.infoR14;have hRz:(0:Int)<(R:Int):=by omega
 have hRb:((R:Int)== 0)=false:=by simp;omega
 obtain⟨b,off,rfl,ca⟩:=hL.adr h0;have hl0:=hlen 0 h0;replace hlen:Hid (∀ r,r<R->len r<=1048576):=hlen;replace ca:Hid (∀ j,j<R->w.cell? ⟨b,off+j,none⟩=some (.slice (A j) (len j) (K j))):=ca
 go_enter Tryz.func46,Tryz.ntmps46
 go_wp2
 go_loopg [4] R (fun g i wr=>∃ k:Nat,k<=R/\g=R - k/\i=.int .i64 k/\zbb w wr/\Aside (∀ j,j<k->len j=len 0))
 case atStart=>exact⟨0,Nat.zero_le _,rfl,rfl,zbb.refl _,fun _ h=>absurd h (Nat.not_lt_zero _)⟩
 case round =>
  obtain⟨k,hk,rfl,rfl,hd,hall⟩:=hrel;have g0:=zhw hd.below (ca.out 0 h0);rw[Nat.add_zero] at g0
  by_cases hlt:k<R
  ·have g1:=zhw hd.below (ca.out k hlt)
   by_cases hz:len k=len 0
   ·have hzb:((len k:Int) != (len 0:Int))=false:=by simp[hz]
    replace hz:Hid (len k=len 0):=hz;go_wp2
    go_quiet (fail)
    go_wp2;go_roundg (R - (k+1))
    case measure=>omega
    case rel=>exact⟨k+1,hlt,rfl,by go_num,hd.drewN _,fun j hj=>by
     rcases Nat.lt_succ_iff_lt_or_eq.1 hj with h | rfl
     ·exact hall.out j h
     ·exact hz.out⟩
   ·have hzb:((len k:Int) != (len 0:Int))=true:=by simp;omega
    replace hz:Hid (len k≠len 0):=hz;go_wp2
    go_quiet (fail)
    go_wp2;go_ret2
    exact⟨(hd.drewN _).below,Or.inr ⟨fun h=>hz.out (h.2.1 k hlt),rfl⟩⟩
  ·obtain rfl:k=R:=by omega
   go_wp2;clear hlt hk
   go_loopg [5,6] (len 0) (fun g ov i wq=>∃ c:Nat,c<=len 0/\g=len 0 - c/\i=.int .i64 c/\Below w.heap.size w wq/\wq.ownsRow w.heap.size 2 1 ov c (zba c fun j=>sumTo k fun r=>Z r j)/\Aside (∀ j,j<c->inR (sumTo k fun r=>Z r j)=true))
   case atStart=>exact⟨0,Nat.zero_le _,rfl,rfl,hd.below,World.ownsRow_nil _ _ _ _,fun _ h=>absurd h (Nat.not_lt_zero _)⟩
   case round =>
    obtain⟨c,hc,rfl,rfl,hBc,hown,hin⟩:=hrel;clear g0 hd;have g0:=zhw hBc (ca.out 0 h0);rw[Nat.add_zero] at g0
    by_cases hlt:c<len 0
    ·go_wp2_with (go_at_call 78;refine(amq _ _).mono ?_;rintro e w1 ⟨rfl,hb1⟩)
     have hk2:Keep wr (w1.alloc (.cells #[.int .i64 (hi 0),.int .i64 (lo 0)] 120)):=hb1.trans ((Below.refl _ _).alloc (Nat.le_refl _) _)
     have hn2:(w1.alloc (.cells #[.int .i64 (hi 0),.int .i64 (lo 0)] 120)).rowIs w1.heap.size 120 2 (zsm 0):=World.rowIs_alloc w1 #[.int .i64 (hi 0),.int .i64 (lo 0)] 120 (zsm 0) (fun i hi=>by
      match i,hi with
      | 0,_=>rfl
      | 1,_=>rfl)
     have hsB:=hb1.size;generalize w1.alloc (.cells #[.int .i64 (hi 0),.int .i64 (lo 0)] 120)=w2 at hk2 hn2 ⊢;generalize w1.heap.size=Bn at hsB hn2 ⊢;clear hb1;replace hk2:Hid (Keep wr w2):=hk2;replace hn2:Hid (w2.rowIs Bn 120 2 (zsm 0)):=hn2
     go_loopg [8] k (fun g i wx=>∃ r:Nat,r<=k/\g=k - r/\i=.int .i64 r/\Keep wr wx/\wx.rowIs Bn 120 2 (zsm (sumTo r fun r=>Z r c)))
     case atStart=>exact⟨0,Nat.zero_le _,rfl,rfl,hk2.out,hn2.out⟩
     case round =>
      obtain⟨r,hr,rfl,rfl,hkx,hnx⟩:=hrel
      by_cases hrk:r<k
      ·have hLx:=(hL.below hBc).below hkx
       obtain⟨bx,ox,ex,cx⟩:=hLx.adr h0
       injection ex with ex
       injection ex with e1 e2 _
       subst e1 e2;have g1:=cx r hrk;obtain⟨br,ofr,er,cr⟩:=(hLx.row r hrk).adr (by rw[hall.out r hrk];omega)
       have hcr:c<len r:=by rw[hall.out r hrk];omega
       have g2:=cr c hcr;rw[er] at g1;have g3:=hnx.cell (i:=0) (by omega)
       have g4:=hnx.cell (i:=1) (by omega)
       have g5:=hnx.frozen 0;have g6:=hnx.frozen 1;simp only[zsm,if_true,Nat.one_ne_zero,if_false] at g3 g4;obtain⟨p1,p2⟩:=akd ((hL.row r hrk).range c hcr);have hlr:=(hL.row r hrk).small;obtain⟨p3,p4⟩:=ake (R:=r) (f:=fun r=>Z r c) (fun q hq=>(hL.row q (by omega)).range c (by rw[hall.out q (by omega)];omega)) (by omega)
       clear cx cr er hLx g0;go_wp2_with fail
       go_region_law (first
         | (go_simp;go_at_call 78;refine(amq _ _).mono ?_;rintro e w1 ⟨rfl,hb1⟩;have f1:=zhz hb1 g3;have f2:=zhz hb1 g4;have f3:=zga hb1 g3 g5;have f4:=zga hb1 g4 g6)
         | (go_simp;go_at_call 79;refine(akz _ _ _ (by omega) (by omega) (by omega) (by omega)).mono ?_;rintro e w3 ⟨rfl,hb3⟩;have f5:=zhz hb3 f1;have f6:=zhz hb3 f2;have f7:=zga hb3 f1 f3;have f8:=zga hb3 f2 f4))
       all_goals
        have hkw:Keep wr w3:=Keep.trans (b:=w1) (Keep.ofDrew hb1) hb3;go_wp2;go_roundg (k - (r+1))
        case measure=>omega
        case rel=>exact⟨r+1,hrk,rfl,by go_num,aav (hkx.trans hkw) hsB,num_row hnx hkw⟩
      ·obtain rfl:r=k:=by omega
       have g3:=hnx.cell (i:=0) (by omega)
       have g4:=hnx.cell (i:=1) (by omega)
       simp only[zsm,if_true,Nat.one_ne_zero,if_false] at g3 g4;have hBx:=zit hBc hBc.size hkx;clear g0;cases hb:inR (sumTo r fun r=>Z r c)
       ·replace hb:Hid (inR (sumTo r fun r=>Z r c)=false):=hb
        go_wp2_with (go_at_call 80;refine(aeq _ _ (agm hb.out)).mono ?_;rintro e w5 ⟨rfl,hb5⟩)
        go_ret2
        exact⟨zit hBx hBx.size hb5,Or.inr ⟨(fun h=>by have:=h.2.2 c hlt;rw[hb.out] at this;cases this),rfl⟩⟩
       ·replace hb:Hid (inR (sumTo r fun r=>Z r c)=true):=hb
        have hown3:=zal hown hkx;clear hown;go_wp2_with fail;refine(aes _ _ (zkn hb.out)).mono ?_;rintro e w5 ⟨rfl,hb5⟩;have hown5:=zal hown3 hb5;have hB5:=zit hBx hBx.size hb5;have hsz5:=hB5.size;go_wp2_with (at_builtin;refine wpList_append_own _ rfl _ _ 24 rfl w.heap.size 2 i0 (.int .i64 0) 1 8 Tryz.underlying24 hi0 hz0 hz1 hz2 rfl (by decide) _ _ _ rfl (hown5.alloc _) ⟨w5.heap.size,0,none⟩ 1 1 [.int .i64 (sumTo r fun r=>Z r c)] rfl rfl (cell_one_new _ _ _) (ints_oneCell .i64 [sumTo r fun r=>Z r c]) (by unfold maxLen;omega) (by omega) (by simp;omega) ?_;intro v' w6 hown6 hgrow hnil)
        have hB6:Below w.heap.size w w6:=(hB5.alloc hsz5 _).grown hgrow (by simp;omega) (fun q hq=>(hown5.lt q hq).1)
        rw[zik c fun j=>sumTo r fun r=>Z r j] at hown6
        go_roundg (len 0 - (c+1))
        case measure=>omega
        case rel=>exact⟨c+1,hlt,rfl,by go_num,hB6,hown6,fun j hj=>by
         rcases Nat.lt_succ_iff_lt_or_eq.1 hj with h | rfl
         ·exact hin.out j h
         ·exact hb.out⟩
    ·obtain rfl:c=len 0:=by omega
     obtain⟨A',cap',rfl,hrd⟩:=ack hown (by omega) (fun j hj=>zkn (hin.out j hj))
     go_wp2;go_ret2
     exact⟨hBc,Or.inl ⟨⟨h0,hall.out,hin.out⟩,_,_,rfl,hrd⟩⟩
end Go.Proofs.YtcogiogjpbkeaaaGreatDoor.R14
namespace Go.Proofs.YtcogiogjpbkeaaaGreatDoor.T14
open Go.RowKit Go.Sort Go.Lib V12 T13
theorem zni(w:World)(b d e c:Nat)(B A:Option Addr)(U Z:Nat->Int)(hb:w.heap[b]?=some (.cells #[.slice B d e,.slice A d c] 24 (0,0)))(hU:Rd w B d U)(hZ:Rd w A d Z)(hd:d<=1000)(hs:∀ j,j<d->-9223372036854775808<=U j+Z j/\U j+Z j<=9223372036854775807):
  Calls Tryz.prog 46 #[.slice (some ⟨b,0,none⟩) 2 2] w fun e w'=>∃ G c',e=.returned (.tuple #[.slice G d c',.bool true])/\Rd w' G d (fun j=>U j+Z j)/\Keep w w':=by
 have c0:w.cell? ⟨b,0,none⟩=some (.slice B d e):=by rw[cell_of_row w b _ _ _ _ hb];rfl
 have c1:w.cell? ⟨b,1,none⟩=some (.slice A d c):=by rw[cell_of_row w b _ _ _ _ hb];rfl
 have hL:Rds w (some ⟨b,0,none⟩) 2 (fun r=>if r=0 then B else A) (fun _=>d) (fun r=>if r=0 then e else c) (fun r=>if r=0 then U else Z):=by
  refine⟨by omega,fun _=>⟨b,0,rfl,fun j hj=>?_⟩,fun r hr=>?_⟩
  ·rcases j with _ | _ | j
   ·exact c0
   ·exact c1
   ·omega
  ·rcases r with _ | _ | r
   ·exact hU
   ·exact hZ
   ·omega
 have hsum:∀ k,sumTo 2 (fun r=>(if r=0 then U else Z) k)=U k+Z k:=fun k=>by
  unfold sumTo sumTo sumTo;simp
 have ok:zlb 2 (fun _=>d) (fun r=>if r=0 then U else Z):=by
  refine⟨by omega,fun _ _=>rfl,fun k hk=>?_⟩
  rw[hsum];unfold inR;exact decide_eq_true (hs k hk)
 refine(R14.radd_some (some ⟨b,0,none⟩) 2 2 _ _ _ _ w hL (by omega) (fun _ _=>by omega) (by omega)).mono ?_
 rintro e w' ⟨k,⟨_,G,c',he,hr⟩ | ⟨h,_⟩⟩
 ·have e2:(fun k=>sumTo 2 fun r=>(if r=0 then U else Z) k)=fun k=>U k+Z k:=by
   funext k
   rw[hsum]
  rw[e2] at hr;exact⟨G,c',he,hr,k⟩
 ·exact absurd ok h
theorem ala{P:Nat->zaa}{m:Nat}{L:List zaa}(hL:(lst P m).map nm=L)(hok:LOk L){id:Int}(hk:id∈keys L):∃ j,j<m/\findN P id m=(j:Int)/\getL L id=nm (P j):=by
 have h0:0<=findN P id m:=by
  rw[find_iff];rw[<- hL,zbq] at hk;obtain⟨p,hp,e⟩:=List.mem_map.1 hk;obtain⟨j,hj,rfl⟩:=lst_mem.1 hp;exact⟨j,hj,e⟩
 obtain⟨j,hj,e,hkj⟩:=zwa h0;refine⟨j,hj,e,?_⟩;have hm:nm (P j)∈L:=by rw[<- hL];exact List.mem_map_of_mem (lst_mem.2 ⟨j,hj,rfl⟩)
 have:=get_mem hok hm;rw[<- this];exact congrArg (getL L) hkj.symm
theorem alb{P:Nat->zaa}{m:Nat}{L:List zaa}(hL:(lst P m).map nm=L){id:Int}(hk:id∉keys L):findN P id m<0:=by
 have:¬0<=findN P id m:=fun h=>by
  obtain⟨j,hj,e⟩:=find_iff.1 h;exact hk (by rw[<- hL,zbq,<- e];exact List.mem_map_of_mem (lst_mem.2 ⟨j,hj,rfl⟩))
 omega
theorem zqj{Q:Nat->C14.NdC}{n:Nat}{M:List NV}(hM:(C14.lst Q n).map nv=M)(hs:G.Srt NV.k M){nd:Int}(hk:nd∈nk M):∃ j,j<n/\C14.findN Q nd n=(j:Int)/\nget M nd=nv (Q j):=by
 rcases C14.find_cases Q nd n with ⟨_,h2⟩ | ⟨j,h1,h2,h3,_,_⟩
 ·exact absurd (by rw[<- hM,zmu] at hk;exact hk) h2
 ·refine⟨j,h1,h2,?_⟩
  have hm:nv (Q j)∈M:=by rw[<- hM];exact List.mem_map_of_mem (C14.lst_mem.2 ⟨j,h1,rfl⟩)
  rw[<- h3];exact G.get_at hs hm
theorem ahk{Q:Nat->C14.NdC}{n:Nat}{M:List NV}(hM:(C14.lst Q n).map nv=M){nd:Int}(hk:nd∉nk M):C14.findN Q nd n<0:=by
 have:¬0<=C14.findN Q nd n:=fun h=>hk (by rw[<- hM,zmu];exact C14.find_iff.1 h)
 omega
theorem ait(P:Nat->zaa)(m:Nat)(id:Int)(j:Nat):zam ((lst P m).map nm) id j=zam (lst P m) id j:=ztk fun _ _=>rfl
theorem ajw{M:List NV}{L:List zaa}{d:Nat}{id nd:Int}{U Z C:Nat->Int}(hU:U=zam L nd)(hZ:(getL L id).Z=Z)(hC:(nget M nd).C=C):zcm d (fun j=>U j+Z j) d C=zji M L d id nd:=by
 rw[Bool.eq_iff_iff,zrt,hZ,hC,hU];unfold zcm;rw[decide_eq_true_eq];exact⟨fun h=>h.2,fun h=>⟨rfl,h⟩⟩
theorem ahq{w w1 W:World}{X:Nat->Prop}{b:Nat}{d:Int}{A:Option Addr}{n c:Nat}{B:Option Addr}{m e:Nat}{P:Nat->zaa}(h:RL w X w1 B e m P)(KW:Keep w1 W)(h2:w1.heap.size<=b)
  (BZ:W.heap[b]?=some (.cells zrc.arr 30 (0,0))):(zav W b ⟨d,A,n,c,B,m,e⟩).heap[b]?=some (.cells (⟨d,A,n,c,B,m,e⟩:RcV).arr 30 (0,0))/\Keep w1 (zav W b ⟨d,A,n,c,B,m,e⟩)/\RL w (fun i=>X i\/(w1.heap.size<=i/\i<(zav W b ⟨d,A,n,c,B,m,e⟩).heap.size)) (zav W b ⟨d,A,n,c,B,m,e⟩) B e m P :=
 ⟨zce _ zrc BZ,zbz _ KW h2,(h.keep (zbz _ KW h2)).less fun _=>Or.inl⟩
end Go.Proofs.YtcogiogjpbkeaaaGreatDoor.T14
