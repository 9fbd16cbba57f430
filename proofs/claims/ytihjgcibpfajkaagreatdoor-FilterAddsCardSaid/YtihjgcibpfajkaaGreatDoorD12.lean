/-
  The reference's Place: Bind, Claim. Conditions: at most 100 pods; the cluster is in order; the dimension is at most 64.
  The reference's Of of layer 16. Conditions: at most 100 pods, whose requests are of the dimension and in the limits; the dimension is at most 64.
  The reference's Fits of layer 16. Conditions: at most 100 pods, whose requests are of the dimension and in the limits; the dimension is at most 64.
  The reference's Sub of vectors. Conditions: at most 1048576 elements.
  The reference's Place: Bind, Claim: the walk.
-/
import Derived.Test.YtihjgcibpfajkaaGreatDoorD11
import Derived.Test.YtihjgcibpfajkaaGreatDoorD10
namespace Go.Proofs.YtihjgcibpfajkaaGreatDoor.T14
open Go.RowKit Go.Sort Go.Lib V12 T13
theorem zvq(w:World)(b d e c:Nat)(B A:Option Addr)(U Z:Nat→Int)(hb:w.heap[b]?=some (.cells #[.slice B d e,.slice A d c] 24 (0,0)))(hU:Rd w B d U)(hZ:Rd w A d Z)(hd:d≤1000)(hs:∀ j,j<d→-9223372036854775808≤U j+Z j∧U j+Z j≤9223372036854775807):
  Calls Tryz.prog 80 #[.slice (some ⟨b,0,none⟩) 2 2] w fun e w'=>∃ G c',e=.returned (.tuple #[.slice G d c',.bool true])∧Rd w' G d (fun j=>U j+Z j)∧Keep w w':=by
 have c0:w.cell? ⟨b,0,none⟩=some (.slice B d e):=by rw[cell_of_row w b _ _ _ _ hb];rfl
 have c1:w.cell? ⟨b,1,none⟩=some (.slice A d c):=by rw[cell_of_row w b _ _ _ _ hb];rfl
 have hL:Rds w (some ⟨b,0,none⟩) 2 (fun r=>if r=0 then B else A) (fun _=>d) (fun r=>if r=0 then e else c) (fun r=>if r=0 then U else Z):=by
  refine⟨by omega,fun _=>⟨b,0,rfl,fun j hj=>?_⟩,fun r hr=>?_⟩
  ·rcases j with _ | _ | j
   ·exact c0
   ·exact c1
   ·omega
  ·rcases r with _ | _ | r
   ·exact hU
   ·exact hZ
   ·omega
 have hsum:∀ k,sumTo 2 (fun r=>(if r=0 then U else Z) k)=U k+Z k:=fun k=>by
  unfold sumTo sumTo sumTo;simp
 have ok:zhw 2 (fun _=>d) (fun r=>if r=0 then U else Z):=by
  refine⟨by omega,fun _ _=>rfl,fun k hk=>?_⟩
  rw[hsum];unfold inR;exact decide_eq_true (hs k hk)
 refine(R14.radd_some (some ⟨b,0,none⟩) 2 2 _ _ _ _ w hL (by omega) (fun _ _=>by omega) (by omega)).mono ?_
 rintro e w' ⟨k,⟨_,G,c',he,hr⟩ | ⟨h,_⟩⟩
 ·have e2:(fun k=>sumTo 2 fun r=>(if r=0 then U else Z) k)=fun k=>U k+Z k:=by
   funext k
   rw[hsum]
  rw[e2] at hr;exact⟨G,c',he,hr,k⟩
 ·exact absurd ok h
theorem ads{P:Nat→zaa}{m:Nat}{L:List zaa}(hL:(lst P m).map nm=L)(hok:LOk L){id:Int}(hk:id∈keys L):∃ j,j<m∧findN P id m=(j:Int)∧zai L id=nm (P j):=by
 have h0:0≤findN P id m:=by
  rw[find_iff];rw[← hL,zcq] at hk;obtain⟨p,hp,e⟩:=List.mem_map.1 hk;obtain⟨j,hj,rfl⟩:=lst_mem.1 hp;exact⟨j,hj,e⟩
 obtain⟨j,hj,e,hkj⟩:=zqd h0;refine⟨j,hj,e,?_⟩;have hm:nm (P j)∈L:=by rw[← hL];exact List.mem_map_of_mem (lst_mem.2 ⟨j,hj,rfl⟩)
 have:=get_mem hok hm;rw[← this];exact congrArg (zai L) hkj.symm
theorem adt{P:Nat→zaa}{m:Nat}{L:List zaa}(hL:(lst P m).map nm=L){id:Int}(hk:id∉keys L):findN P id m<0:=by
 have:¬0≤findN P id m:=fun h=>by
  obtain⟨j,hj,e⟩:=find_iff.1 h;exact hk (by rw[← hL,zcq,← e];exact List.mem_map_of_mem (lst_mem.2 ⟨j,hj,rfl⟩))
 omega
theorem zqr{Q:Nat→C14.NdC}{n:Nat}{M:List NV}(hM:(C14.lst Q n).map nv=M)(hs:G.Srt NV.k M){nd:Int}(hk:nd∈nk M):∃ j,j<n∧C14.findN Q nd n=(j:Int)∧nget M nd=nv (Q j):=by
 rcases C14.find_cases Q nd n with ⟨_,h2⟩ | ⟨j,h1,h2,h3,_,_⟩
 ·exact absurd (by rw[← hM,zlq] at hk;exact hk) h2
 ·refine⟨j,h1,h2,?_⟩
  have hm:nv (Q j)∈M:=by rw[← hM];exact List.mem_map_of_mem (C14.lst_mem.2 ⟨j,h1,rfl⟩)
  rw[← h3];exact G.get_at hs hm
theorem zzx{Q:Nat→C14.NdC}{n:Nat}{M:List NV}(hM:(C14.lst Q n).map nv=M){nd:Int}(hk:nd∉nk M):C14.findN Q nd n<0:=by
 have:¬0≤C14.findN Q nd n:=fun h=>hk (by rw[← hM,zlq];exact C14.find_iff.1 h)
 omega
theorem abg(P:Nat→zaa)(m:Nat)(id:Int)(j:Nat):zaj ((lst P m).map nm) id j=zaj (lst P m) id j:=zod fun _ _=>rfl
theorem acf{M:List NV}{L:List zaa}{d:Nat}{id nd:Int}{U Z C:Nat→Int}(hU:U=zaj L nd)(hZ:(zai L id).Z=Z)(hC:(nget M nd).C=C):zcb d (fun j=>U j+Z j) d C=zgs M L d id nd:=by
 rw[Bool.eq_iff_iff,zjj,hZ,hC,hU];unfold zcb;rw[decide_eq_true_eq];exact⟨fun h=>h.2,fun h=>⟨rfl,h⟩⟩
theorem aae{w w1 W:World}{X:Nat→Prop}{b:Nat}{d:Int}{A:Option Addr}{n c:Nat}{B:Option Addr}{m e:Nat}{P:Nat→zaa}(h:RL w X w1 B e m P)(KW:Keep w1 W)(h2:w1.heap.size≤b)
  (BZ:W.heap[b]?=some (.cells zrc.arr 30 (0,0))):(zan W b ⟨d,A,n,c,B,m,e⟩).heap[b]?=some (.cells (⟨d,A,n,c,B,m,e⟩:RcV).arr 30 (0,0))∧Keep w1 (zan W b ⟨d,A,n,c,B,m,e⟩)∧RL w (fun i=>X i∨(w1.heap.size≤i∧i<(zan W b ⟨d,A,n,c,B,m,e⟩).heap.size)) (zan W b ⟨d,A,n,c,B,m,e⟩) B e m P :=
 ⟨zbm _ zrc BZ,zbh _ KW h2,(h.keep (zbh _ KW h2)).less fun _=>Or.inl⟩
end Go.Proofs.YtihjgcibpfajkaaGreatDoor.T14
namespace Go.Proofs.YtihjgcibpfajkaaGreatDoor.T16
open Go.RowKit Go.Sort Go.Lib V12 T13 T14 T15
def zlx(O:Int→Bool)(L:List zaa):List zaa:=L.filter fun y=>!O y.k
end Go.Proofs.YtihjgcibpfajkaaGreatDoor.T16
namespace Go.Proofs.YtihjgcibpfajkaaGreatDoor.T16
open Go.RowKit Go.Sort Go.Lib V12 T13 T14 T15
def zca(O:Int→Bool)(p:zaa)(nd:Int)(L:List zaa)(j:Nat):Int:=zaj (zlx O L) nd j+zdb (zbv p nd L) j
end Go.Proofs.YtihjgcibpfajkaaGreatDoor.T16
namespace Go.Proofs.YtihjgcibpfajkaaGreatDoor.R14
open Go.RowKit V12
end Go.Proofs.YtihjgcibpfajkaaGreatDoor.R14
namespace Go.Proofs.YtihjgcibpfajkaaGreatDoor.T14
open Go.RowKit Go.Sort Go.Lib V12 T13
set_option maxRecDepth 100000 in
set_option maxHeartbeats 16000000 in
theorem znt{w:World}{X:Nat→Prop}{w1:World}(d:Nat)(A:Option Addr)(n c:Nat)(B:Option Addr)(m e:Nat){P:Nat→zaa}{L:List zaa}{Q:Nat→C14.NdC}{M:List NV}
  (h:RL w X w1 B e m P) (hL:(lst P m).map nm=L) (hN:C14.RdC w1 A n Q) (hM:(C14.lst Q n).map nv=M) (hQ:∀ j,j<n→(Q j).n=d) (ok:Ok d M L) (hd:d≤64) (id nd ev:Int) (hev:ev=1∨ev=2) (hnd:I64 nd) (k:Keep w w1) (hX:∀ i,X i→i<w1.heap.size) (hm:m≤100) :
  Calls Tryz.prog 49 #[(⟨d,A,n,c,B,m,e⟩:RcV).val,.int .i64 id,.int .i64 nd,.int .i64 ev] w1 (zgb w w1 X d A n c (plL M L d id nd ev) (plC M L d id nd ev) (plI M L id nd) id (zao (zai L id) ev nd (-1))):=by
 have mixed:Tryz.prog.follows .mixedOrders=true:=by kernel_rfl
 unfold zgb;obtain⟨W0,hW0⟩:∃ W0,W0=w1.alloc (.cells (⟨d,A,n,c,B,m,e⟩:RcV).arr 30):=⟨_,rfl⟩;obtain⟨W,hW⟩:∃ W,W=W0.alloc (.cells zrc.arr 30):=⟨_,rfl⟩;obtain⟨bx,hbx⟩:∃ bx,bx=w1.heap.size:=⟨_,rfl⟩;obtain⟨b,hb⟩:∃ b,b=w1.heap.size+1:=⟨_,rfl⟩;have s0:W0.heap.size=b:=by rw[hW0,World.size_alloc,hb]
 have KW:Hid (Keep w1 W):=by rw[hW,hW0];exact(Keep.one _ _:Keep w1 _).alloc _
 have BX:Hid (W.heap[bx]?=some (.cells (⟨d,A,n,c,B,m,e⟩:RcV).arr 30 (0,0))):=by show _=_;rw[hW,hW0,hbx];exact(Keep.one _ _).block (heap_alloc_new _ _)
 have BZ:Hid (W.heap[b]?=some (.cells zrc.arr 30 (0,0))):=by show _=_;rw[hW,← s0];exact heap_alloc_new _ _
 have hR:=h.rd.keep KW.out;have cF:=Lib.hid (zch B m e P id W hR);have cK:Hid (Calls Tryz.prog 47 #[(⟨d,A,n,c,B,m,e⟩:RcV).val,.int .i64 nd] W fun e' w'=>e'=.returned (.int .i64 (C14.findN Q nd n))∧Keep W w'):=(zht (⟨d,A,n,c,B,m,e⟩:RcV) Q nd W (hN.row.keep KW.out)).mono fun _ _ ⟨he,e2⟩=>⟨he,by rw[e2];exact Keep.one _ _⟩
 have cS:Hid (∀ W',Keep W W'→Calls Tryz.prog 83 #[.slice B m e,.int .i64 id,.int .i64 ev,.int .i64 nd,.int .i64 (-1)] W' fun e' w'=>∃ B' c' n' P',e'=.returned (.tuple #[.slice B' n' c',.int .i64 (zbi L id ev)])∧Keep W w'∧RL w (fun i=>X i∨(W.heap.size≤i∧i<w'.heap.size)) w' B' c' n' P'∧(lst P' n').map nm=zcn L id ev nd (-1)∧(zbi L id ev=0→∃ t,t<n'∧findN P' id n'=(t:Int)∧nm (P' t)=zao (zai L id) ev nd (-1))):=fun W' k2=>(zwb (h.keep (KW.out.trans k2)) hL ok.lok id ev nd (-1) hnd (by unfold I64;omega) (by omega)).mono fun _ _ ⟨B',c',n',P',he,k3,rl,r3,r4⟩=>⟨B',c',n',P',he,k2.trans k3,rl.less fun i hi=>hi.imp_right fun hh=>⟨Nat.le_trans k2.size hh.1,hh.2⟩,r3,r4⟩
 have cFin:Hid (∀ W',Keep W W'→W'.cell? ⟨bx,0,none⟩=some (.int .i64 d)∧W'.cell? ⟨bx,1,none⟩=some (.slice A n c)∧W'.cell? ⟨bx,2,none⟩=some (.slice B m e)∧(∀ i,W'.frozen? ⟨bx,i,none⟩=false)∧W'.cell? ⟨b,0,none⟩=some (.int .i64 0)∧W'.cell? ⟨b,1,none⟩=some (.slice none 0 0)∧W'.cell? ⟨b,2,none⟩=some (.slice none 0 0)∧(∀ i,W'.frozen? ⟨b,i,none⟩=false)):=fun W' k2=>by
  obtain⟨c0,c1,c2,cf⟩:=zac (k2.block BX.out);obtain⟨z0,z1,z2,zf⟩:=zac (k2.block BZ.out);exact⟨c0,c1,c2,cf,z0,z1,z2,zf⟩
 have fin:Hid (∀ W',Keep W W'→(zan W' b ⟨d,A,n,c,B,m,e⟩).heap[b]?=some (.cells (⟨d,A,n,c,B,m,e⟩:RcV).arr 30 (0,0))∧Keep w1 (zan W' b ⟨d,A,n,c,B,m,e⟩)∧RL w (fun i=>X i∨(w1.heap.size≤i∧i<(zan W' b ⟨d,A,n,c,B,m,e⟩).heap.size)) (zan W' b ⟨d,A,n,c,B,m,e⟩) B e m P):=fun W' k2=>aae h (KW.out.trans k2) (by omega) (k2.block BZ.out)
 have nochg:Hid (∀ cd,plC M L d id nd ev=cd→cd≠0→plL M L d id nd ev=(lst P m).map nm):=fun cd h1 h2=>by
  unfold plL;rw[if_neg (by rw[h1];exact h2)]
  exact hL.symm
 obtain⟨c0,c1,c2,cf,z0,z1,z2,zf⟩:=cFin.out W (Keep.refl W);have h':=Lib.hid h;have hL':=Lib.hid hL;have hX':=Lib.hid hX;have k':=Lib.hid k;have hM':=Lib.hid hM;have hN':=Lib.hid hN;have hQ':=Lib.hid hQ;have ok':=Lib.hid ok;have hR':=Lib.hid hR;simp only[RcV.arr] at hW0;simp only[RcV.arr,zrc] at hW;have c2e:=c2;rw[hW,hW0] at c2e;simp only[RcV.val] at cK ⊢;clear h hL hX k hN hQ hR
 by_cases hk:id∈keys L
 ·obtain⟨j,hj,hfj,hget⟩:=ads hL'.out ok'.out.lok hk
  rw[hfj] at cF;have hfj':=Lib.hid hfj;replace hfj:=Lib.hid hfj;have hget':=Lib.hid hget;replace hget:=Lib.hid hget
  by_cases hn:nd∈nk M
  ·obtain⟨i,hi,hfi,hgn⟩:=zqr hM'.out ok'.out.srt hn
   rw[hfi] at cK;replace hfi:=Lib.hid hfi;replace hgn:=Lib.hid hgn;obtain⟨gp,off,hBB,ca⟩:=hR'.out.adr (by omega)
   subst hBB;have q9:=zbe gp off m e j hj;have y4:=Lib.hid (ca j hj).e4;have y6:=Lib.hid (ca j hj).e6;clear ca;have hph:Hid ((zai L id).h=(P j).h):=by show _=_;rw[hget.out];rfl
   obtain⟨ph,hp⟩:∃ ph,ph=(P j).h:=⟨_,rfl⟩;rw[← hp] at y6 hph;replace hp:=Lib.hid hp;have cN:=Lib.hid (fun W'=>zee ph ev W')
   have hi1:plI M L id nd=0:=if_neg fun hh=>hh.2 hn
   by_cases hx:nx ph ev=0
   ·have hc:plC M L d id nd ev=8:=by
     unfold plC;rw[if_neg (not_not_intro hk),if_neg (not_not_intro hn),hph.out,if_pos hx]
    have no:=Lib.hid (nochg.out 8 hc (by decide))
    rw[hc,hi1];replace hc:=Lib.hid hc;replace hi1:=Lib.hid hi1;replace hk:=Lib.hid hk;replace hn:=Lib.hid hn
    go_enter Tryz.func49,Tryz.ntmps49
    go_wp2_with fail;clear c2e;rw[← hW0,← hW,← hb];try rw[← hbx]
    replace hW0:=Lib.hid hW0;replace hW:=Lib.hid hW;replace hb:=Lib.hid hb;replace hbx:=Lib.hid hbx;replace s0:=Lib.hid s0;refine cF.out.mono ?_;rintro e' w2 ⟨rfl,rfl⟩;go_wp2_with fail;refine cK.out.mono ?_;rintro e' w3 ⟨rfl,k3⟩;replace k3:=Lib.hid k3;clear c0 c1 c2 cf z0 z1 z2 zf;obtain⟨c0,c1,c2,cf,z0,z1,z2,zf⟩:=cFin.out w3 k3.out;have x6:=k3.out.cell y6.out;have x4:=k3.out.cell y4.out;go_wp2_with fail;refine(cN.out _).mono ?_;rintro e' w4 ⟨rfl,rfl⟩;rw[hx];replace hx:=Lib.hid hx;go_wp2;obtain⟨q1,q2,q3⟩:=fin.out w3 k3.out;obtain⟨e0,e1,e2,_⟩:=zac q1;simp only[zan] at *;refine bodyPost_ret (v:=.tuple #[.agg #[.int .i64 d,.slice (A) n c,.slice (some ⟨gp,off,none⟩) m e],.int .i64 8,.int .i64 0]) (by simp[results,Tryz.results49,go_sem,e0,e1,e2]) rfl ⟨some ⟨gp,off,none⟩,e,m,P,rfl,q2,q3,no.out.symm,fun h0=>absurd h0 (by decide)⟩
   ·have happ:Hid (zbi L id ev=0):=by
     show _=_
     unfold zbi;rw[if_neg (not_not_intro hk),hph.out,if_neg hx]
    have hpl:Hid (plC M L d id nd ev=if ev=1∧zgs M L d id nd=false then 10 else 0):=by
     show _=_
     unfold plC;rw[if_neg (not_not_intro hk),if_neg (not_not_intro hn),hph.out,if_neg hx]
    have hreq:∀ t,t<m→(P t).m=d∧∀ k,k<d→Amt ((P t).Z k):=fun t ht=>ok'.out.req (nm (P t)) (by rw[← hL'.out];exact List.mem_map_of_mem (lst_mem.2 ⟨t,ht,rfl⟩))
    have rq:=hreq j hj;have hlen:L.length=m:=by rw[← hL'.out,List.length_map,lst_len]
    have hU:zaj L nd=zaj (lst P m) nd:=by
     funext t
     rw[← hL'.out,abg]
    obtain⟨U,hUU⟩:∃ U,U=zaj L nd:=⟨_,rfl⟩;have ub:∀ t,t<d→0≤U t∧U t≤109951162777600:=fun t ht=>by
     rw[hUU];refine⟨zfb (ok'.out.amtL ht),?_⟩;have:=zke (id:=nd) (ok'.out.amtL ht);omega
    have cU:Hid (∀ W',Keep W W'→Calls Tryz.prog 81 #[.agg #[.int .i64 d,.slice A n c,.slice (some ⟨gp,off,none⟩) m e],.int .i64 nd] W' fun e' w'=>∃ g,e'=.returned (.slice (some ⟨g,0,none⟩) d d)∧Rd w' (some ⟨g,0,none⟩) d U∧Keep W w'∧Keep W' w'):=fun W' k2=>(zwk (⟨d,A,n,c,some ⟨gp,off,none⟩,m,e⟩:RcV) d rfl hd P nd W' (hR'.out.keep k2) hm hreq).mono fun _ _ ⟨g,he,_,hr,k3⟩=>⟨g,he,by rw[hUU,hU];rw[hUU,hU] at ub;exact(show zda _ g d (zaj (lst P m) nd) from hr).rd (by omega) fun t ht=>⟨by have:=ub t ht;omega,by have:=ub t ht;omega⟩,k2.trans k3,k3⟩
    have yr:=(hR'.out.is j hj).rd;rw[rq.1] at yr;obtain⟨pA,hpA⟩:∃ pA,pA=(P j).A:=⟨_,rfl⟩;obtain⟨pc,hpc⟩:∃ pc,pc=(P j).c:=⟨_,rfl⟩;obtain⟨S,hS⟩:∃ S:Nat→Int,S=fun t=>U t+(P j).Z t:=⟨_,rfl⟩
    rw[rq.1,← hpA,← hpc] at y4;rw[← hpA] at yr;have sb:∀ t,t<d→-9223372036854775808≤U t+(P j).Z t∧U t+(P j).Z t≤9223372036854775807:=fun t ht=>by
     have h1:=ub t ht;have h2:=rq.2 t ht;unfold Amt at h2;omega
    have cA:Hid (∀ W' G b',Rd W' G d U→Keep W W'→W'.heap[b']?=some (.cells #[.slice G d d,.slice pA d pc] 24 (0,0))→Calls Tryz.prog 80 #[.slice (some ⟨b',0,none⟩) 2 2] W' fun e' w'=>∃ G' c',e'=.returned (.tuple #[.slice G' d c',.bool true])∧Rd w' G' d S∧Keep W w'):=fun W' G b' hu k2 hb'=>(zvq W' b' d d pc G pA U (P j).Z hb' hu (yr.keep k2) (by omega) sb).mono fun _ _ ⟨G',c',he,hr,k3⟩=>⟨G',c',he,by rw[hS];exact hr,k2.trans k3⟩
    obtain⟨gn,of2,hAA,cn⟩:=hN'.out.row.adr (by omega)
    subst hAA;have q2:=C14.atN gn of2 n c i hi;have n1:=(cn i hi).e1;have nr:=hN'.out.rd i hi;rw[hQ'.out i hi] at n1 nr;obtain⟨nA,hnA⟩:∃ nA,nA=(Q i).A:=⟨_,rfl⟩;obtain⟨nc,hnc⟩:∃ nc,nc=(Q i).c:=⟨_,rfl⟩;rw[← hnA,← hnc] at n1;rw[← hnA] at nr;have n1:=Lib.hid n1;obtain⟨f,hf⟩:∃ f,f=zgs M L d id nd:=⟨_,rfl⟩;rw[← hf] at hpl;have hff:zcb d S d (Q i).C=f:=by
     rw[hf,hS];refine acf hUU ?_ ?_
     ·rw[hget.out];rfl
     ·rw[hgn.out];rfl
    have cFit:Hid (∀ W' G' c',Rd W' G' d S→Keep W W'→Calls Tryz.prog 82 #[.slice G' d c',.slice nA d nc] W' fun e' w'=>e'=.returned (.bool f)∧Keep W w'):=fun W' G' c' hu k2=>(zsu G' nA d d c' nc S (Q i).C W' hu (nr.keep (KW.out.trans k2))).mono fun _ _ ⟨he,k3⟩=>⟨by rw[← hff];exact he,k2.trans k3.keep⟩
    clear cn hreq yr nr sb ub hlen;replace hUU:=Lib.hid hUU;replace hU:=Lib.hid hU;replace hpA:=Lib.hid hpA;replace hpc:=Lib.hid hpc;replace hS:=Lib.hid hS;replace hnA:=Lib.hid hnA;replace hnc:=Lib.hid hnc;replace hf:=Lib.hid hf;replace hff:=Lib.hid hff;replace rq:=Lib.hid rq;rw[hi1];replace hi1:=Lib.hid hi1;replace hk:=Lib.hid hk;replace hn:=Lib.hid hn;replace hev:=Lib.hid hev;obtain⟨nxv,hnxv⟩:∃ v,v=nx ph ev:=⟨_,rfl⟩;rw[← hnxv] at hx;have cN:Hid (∀ W',Calls Tryz.prog 79 #[.int .i64 ph,.int .i64 ev] W' fun e' w'=>e'=.returned (.int .i64 nxv)∧W'=w'):=fun W'=>by rw[hnxv];exact cN.out W'
    replace hnxv:=Lib.hid hnxv;have hxb:(nxv == 0)=false:=by simpa using hx
    go_enter Tryz.func49,Tryz.ntmps49
    go_wp2_with fail;clear c2e;rw[← hW0,← hW,← hb];try rw[← hbx]
    replace hW0:=Lib.hid hW0;replace hW:=Lib.hid hW;replace hb:=Lib.hid hb;replace hbx:=Lib.hid hbx;replace s0:=Lib.hid s0;refine cF.out.mono ?_;rintro e' w2 ⟨rfl,rfl⟩;go_wp2_with fail;refine cK.out.mono ?_;rintro e' w3 ⟨rfl,k3⟩;replace k3:=Lib.hid k3;clear c0 c1 c2 cf z0 z1 z2 zf;obtain⟨c0,c1,c2,cf,z0,z1,z2,zf⟩:=cFin.out w3 k3.out;have x6:=k3.out.cell y6.out;have x4:=k3.out.cell y4.out;go_wp2_with fail;refine(cN.out _).mono ?_;rintro e' w4 ⟨rfl,rfl⟩;go_wp2_with fail
    go_region_held3 (fun w'=>w'.cell? ⟨bx,0,none⟩=some (.int .i64 d)∧w'.cell? ⟨bx,1,none⟩=some (.slice (some ⟨gn,of2,none⟩) n c)∧w'.cell? ⟨bx,2,none⟩=some (.slice (some ⟨gp,off,none⟩) m e)∧w'.cell? ⟨gp,off+j * 9+4,none⟩=some (.slice pA d pc))
     (first
      | ((refine(fun (KK:Keep W _)=>⟨(cFin.out _ KK).1,(cFin.out _ KK).2.1,(cFin.out _ KK).2.2.1,KK.cell y4.out⟩) ?_;repeat (with_reducible first | exact K7.out | exact K6.out | exact k3.out | apply Keep.drew | apply Keep.drewN | (refine Keep.alloc ?_ _)));done))
     (first
      | (go_at_call 81;refine(cU.out _ (by repeat (with_reducible first | exact k3.out | apply Keep.drew | apply Keep.drewN))).mono ?_;rintro e' w6 ⟨g6,rfl,R6,K6,k6⟩;replace R6:=Lib.hid R6;replace K6:=Lib.hid K6;replace k6:=Lib.hid k6)
      | (go_at_call 80;refine(cA.out _ _ _ (R6.out.keep (by repeat (with_reducible first | exact Keep.refl w6 | apply Keep.drew | apply Keep.drewN | (refine Keep.alloc ?_ _)))) (by repeat (with_reducible first | exact K6.out | apply Keep.drew | apply Keep.drewN | (refine Keep.alloc ?_ _))) (by exact heap_alloc_new _ _)).mono ?_;rintro e' w7 ⟨G7,c7,rfl,R7,K7⟩;replace R7:=Lib.hid R7;replace K7:=Lib.hid K7))
    all_goals
     clear c0 c1 c2 cf z0 z1 z2 zf x4 x6;obtain⟨c0,c1,c2,cf,z0,z1,z2,zf⟩:=cFin.out w7 K7.out;have x1:=(KW.out.trans K7.out).cell n1.out;rcases hev.out with rfl | rfl
     ·go_wp2_with fail
      refine(cFit.out w7 G7 c7 R7.out K7.out).mono ?_;rintro e' w8 ⟨rfl,K8⟩;replace K8:=Lib.hid K8;clear c0 c1 c2 cf z0 z1 z2 zf;obtain⟨c0,c1,c2,cf,z0,z1,z2,zf⟩:=cFin.out w8 K8.out;cases f with
      | true =>
        have hcd:Hid (plC M L d id nd 1=0):=by show _=_;rw[hpl.out];simp
        go_wp2_with fail;clear c0 c1 c2 cf z0 z1 z2 zf;refine(cS.out w8 K8.out).mono ?_;rintro e' w9 ⟨B',c',n',P',rfl,k9,rl,hl,ht⟩;obtain⟨F1,F2,F3⟩:=zpk (d:=d) (A:=some ⟨gn,of2,none⟩) (n:=n) (c:=c) (bx:=bx) (b:=b) k'.out KW.out (by have:=hbx.out;omega) (by have:=hb.out;omega) (by have:=hb.out;have:=hbx.out;omega) (lt_of_block BX.out) (lt_of_block BZ.out) hX'.out k9 (k9.block BZ.out) rl
        obtain⟨c0,c1,c2,cf,z0,z1,z2,zf⟩:=cFin.out w9 k9;have F1:=Lib.hid F1;have F2:=Lib.hid F2;have F3:=Lib.hid F3;have hne:bx≠b:=by have:=hb.out;have:=hbx.out;omega
        replace rl:=Lib.hid rl;replace hl:=Lib.hid hl;replace ht:=Lib.hid ht;replace k9:=Lib.hid k9;go_wp2;obtain⟨e0,e1,e2,_⟩:=zac F1.out;simp only[zan] at *;refine bodyPost_ret (v:=.tuple #[.agg #[.int .i64 d,.slice (some ⟨gn,of2,none⟩) n c,.slice B' n' c'],.int .i64 0,.int .i64 0]) (by simp[results,Tryz.results49,go_sem,e0,e1,e2]) rfl ⟨B',c',n',P',by rw[hcd.out],F2.out,F3.out,?_,fun _=>ht.out happ.out⟩
        unfold plL;rw[if_pos hcd.out];exact hl.out
      | false =>
        have hcd:Hid (plC M L d id nd 1=10):=by show _=_;rw[hpl.out];simp
        go_wp2;obtain⟨q1,q2,q3⟩:=fin.out w8 K8.out;obtain⟨e0,e1,e2,_⟩:=zac q1;simp only[zan] at *;refine bodyPost_ret (v:=.tuple #[.agg #[.int .i64 d,.slice (some ⟨gn,of2,none⟩) n c,.slice (some ⟨gp,off,none⟩) m e],.int .i64 10,.int .i64 0]) (by simp[results,Tryz.results49,go_sem,e0,e1,e2]) rfl ⟨some ⟨gp,off,none⟩,e,m,P,by rw[hcd.out],q2,q3,(nochg.out 10 hcd.out (by decide)).symm,fun h0=>absurd (hcd.out.symm.trans h0) (by decide)⟩
     ·have hcd:Hid (plC M L d id nd 2=0):=by show _=_;rw[hpl.out];simp
      go_wp2_with fail;clear c0 c1 c2 cf z0 z1 z2 zf;refine(cS.out w7 K7.out).mono ?_;rintro e' w9 ⟨B',c',n',P',rfl,k9,rl,hl,ht⟩;obtain⟨F1,F2,F3⟩:=zpk (d:=d) (A:=some ⟨gn,of2,none⟩) (n:=n) (c:=c) (bx:=bx) (b:=b) k'.out KW.out (by have:=hbx.out;omega) (by have:=hb.out;omega) (by have:=hb.out;have:=hbx.out;omega) (lt_of_block BX.out) (lt_of_block BZ.out) hX'.out k9 (k9.block BZ.out) rl
      obtain⟨c0,c1,c2,cf,z0,z1,z2,zf⟩:=cFin.out w9 k9;have F1:=Lib.hid F1;have F2:=Lib.hid F2;have F3:=Lib.hid F3;have hne:bx≠b:=by have:=hb.out;have:=hbx.out;omega
      replace rl:=Lib.hid rl;replace hl:=Lib.hid hl;replace ht:=Lib.hid ht;replace k9:=Lib.hid k9;go_wp2;obtain⟨e0,e1,e2,_⟩:=zac F1.out;simp only[zan] at *;refine bodyPost_ret (v:=.tuple #[.agg #[.int .i64 d,.slice (some ⟨gn,of2,none⟩) n c,.slice B' n' c'],.int .i64 0,.int .i64 0]) (by simp[results,Tryz.results49,go_sem,e0,e1,e2]) rfl ⟨B',c',n',P',by rw[hcd.out],F2.out,F3.out,?_,fun _=>ht.out happ.out⟩
      unfold plL;rw[if_pos hcd.out];exact hl.out
  ·have hc:plC M L d id nd ev=5:=by
    unfold plC;rw[if_neg (not_not_intro hk),if_pos hn]
   have hi1:plI M L id nd=1:=if_pos ⟨hk,hn⟩;have no:=Lib.hid (nochg.out 5 hc (by decide))
   rw[hc,hi1];have hr0:=zzx hM'.out hn;obtain⟨r,hr⟩:∃ r,r=C14.findN Q nd n:=⟨_,rfl⟩;rw[← hr] at cK hr0;replace hr:=Lib.hid hr;replace hc:=Lib.hid hc;replace hi1:=Lib.hid hi1;replace hk:=Lib.hid hk;replace hn:=Lib.hid hn
   go_enter Tryz.func49,Tryz.ntmps49
   go_wp2_with fail;clear c2e;rw[← hW0,← hW,← hb];try rw[← hbx]
   replace hW0:=Lib.hid hW0;replace hW:=Lib.hid hW;replace hb:=Lib.hid hb;replace hbx:=Lib.hid hbx;replace s0:=Lib.hid s0;refine cF.out.mono ?_;rintro e' w2 ⟨rfl,rfl⟩;go_wp2_with fail;refine cK.out.mono ?_;rintro e' w3 ⟨rfl,k3⟩;replace k3:=Lib.hid k3;clear c0 c1 c2 cf z0 z1 z2 zf;obtain⟨c0,c1,c2,cf,z0,z1,z2,zf⟩:=cFin.out w3 k3.out;go_wp2;obtain⟨q1,q2,q3⟩:=fin.out w3 k3.out;obtain⟨e0,e1,e2,_⟩:=zac q1;simp only[zan] at *;refine bodyPost_ret (v:=.tuple #[.agg #[.int .i64 d,.slice (A) n c,.slice (B) m e],.int .i64 5,.int .i64 1]) (by simp[results,Tryz.results49,go_sem,e0,e1,e2]) rfl ⟨B,e,m,P,rfl,q2,q3,no.out.symm,fun h0=>absurd h0 (by decide)⟩
 ·have hc:plC M L d id nd ev=5:=if_pos hk
  have hi1:plI M L id nd=0:=if_neg fun hh=>hk hh.1
  have no:=Lib.hid (nochg.out 5 hc (by decide))
  rw[hc,hi1];have hr0:=adt hL'.out hk;obtain⟨r,hr⟩:∃ r,r=findN P id m:=⟨_,rfl⟩;rw[← hr] at cF hr0;replace hr:=Lib.hid hr;replace hc:=Lib.hid hc;replace hi1:=Lib.hid hi1;replace hk:=Lib.hid hk
  go_enter Tryz.func49,Tryz.ntmps49
  go_wp2_with fail;clear c2e;rw[← hW0,← hW,← hb];try rw[← hbx]
  replace hW0:=Lib.hid hW0;replace hW:=Lib.hid hW;replace hb:=Lib.hid hb;replace hbx:=Lib.hid hbx;replace s0:=Lib.hid s0;refine cF.out.mono ?_;rintro e' w2 ⟨rfl,rfl⟩;go_wp2;obtain⟨q1,q2,q3⟩:=fin.out W (Keep.refl W);obtain⟨e0,e1,e2,_⟩:=zac q1;simp only[zan] at *;refine bodyPost_ret (v:=.tuple #[.agg #[.int .i64 d,.slice (A) n c,.slice (B) m e],.int .i64 5,.int .i64 0]) (by simp[results,Tryz.results49,go_sem,e0,e1,e2]) rfl ⟨B,e,m,P,rfl,q2,q3,no.out.symm,fun h0=>absurd h0 (by decide)⟩
end Go.Proofs.YtihjgcibpfajkaaGreatDoor.T14
