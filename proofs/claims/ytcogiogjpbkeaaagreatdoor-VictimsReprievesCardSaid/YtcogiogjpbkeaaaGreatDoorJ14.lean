/-
  The reference's AddNode: a new node. Condition: at most 100 nodes, sorted.
-/
import Derived.Test.YtcogiogjpbkeaaaGreatDoorJ0
import Derived.Test.YtcogiogjpbkeaaaGreatDoorJ13
import Derived.Deep.CutBlock
namespace Go.Proofs.YtcogiogjpbkeaaaGreatDoor.C14
open Go.RowKit Go.Sort Go.Lib V12 T13 T14
theorem zqp(W:World)(P:Nat->NdC):zdq W (.slice none 0 0) (0 - 0) (zau (fun t=>P (0+t)) (0 - 0)):=.inl ⟨rfl,by decide,by simp[zau]⟩
theorem zcf{o:Oper}{a:Act}{w:World}{K:Act->World->Prop}{Q:Exit->Act->World->Prop}(hgd:o.guard=none)(s x:Operand)(ho:o.op=.call { callee:=.builtin .append,args:=#[s,x],argTypes:=#[22,22] })
  (base:Nat) (v:Value) (n:Nat) (xs:List Value) (hs:a.eval s=v) (hown:w.ownsRow base 56 2 v n xs) (X:Value) (m:Nat) (news:List Value) (hx:a.eval x=X) (hsrc:zdq w X m news) (h1:∀ u∈news,u.oneCell'=true)
  (hlim:n+m<=1048577) (hbase:base<=w.heap.size) (N:Nat) (hN:n+m=N)
  (h:∀ v' w',w'.ownsRow base 56 2 v' N (xs++news)->w.grownBy w' v.ownBlock->K (a.put o.dst v') w'):Oper.wp Tryz.prog o a w K Q:=by
 have h2:=zbi (ops:=#[]) (E:=True) Tryz.tyC14 hgd s x ho base v n xs hs hown X m news hx hsrc h1 hlim hbase N hN h (Q:=Q)
 rwa [if_pos (by simp[Region.wanted,hgd])] at h2
set_option maxRecDepth 100000 in
set_option maxHeartbeats 16000000 in
theorem zvc{w:World}{X:Nat->Prop}{w1:World}(d:Nat)(A:Option Addr)(N c:Nat)(B:Option Addr)(m e:Nat){P:Nat->NdC}{M:List NV}(h:RN w X w1 A c N P)(hM:(lst P N).map nv=M)(hs:G.Srt NV.k M)(kd:Int)(A2:Option Addr)(n2 c2:Nat)(Z:Nat->Int)(hV:Rd w A2 n2 Z)(nilV:A2=none->n2=0/\c2=0)(hk:I64 kd)(k:Keep w w1)(hn:N<=100)(hw:¬0<=zak n2 Z d)(hin:kd∉nk M):
  Calls Tryz.prog 27 #[(⟨d,A,N,c,B,m,e⟩:RcV).val,.agg #[.int .i64 kd,.slice A2 n2 c2]] w1 fun e' w'=>∃ A' c' n' P',e'=.returned (.tuple #[(⟨d,A',n',c',B,m,e⟩:RcV).val,.int .i64 (adC M d kd n2 Z),.int .i64 (wrI d n2 Z)])/\Keep w1 w'/\RN w (fun i=>X i\/(w1.heap.size<=i/\i<w'.heap.size)) w' A' c' n' P'/\(lst P' n').map nv=adL M d kd n2 Z/\((∀ j,j<N->(P j).n=d)->∀ j,j<n'->(P' j).n=d):=by
 have mixed:Tryz.prog.follows .mixedOrders=true:=by kernel_rfl
 obtain⟨W0,hW0⟩:=Zn (w1.alloc (.cells (⟨d,A,N,c,B,m,e⟩:RcV).arr 30));obtain⟨W1,hW1⟩:=Zn (W0.alloc (.cells #[.int .i64 kd,.slice A2 n2 c2] 56));obtain⟨W,hW⟩:=Zn (W1.alloc (.cells zrc.arr 30));obtain⟨bx,hbx⟩:=Zn (w1.heap.size);obtain⟨by',hby⟩:∃ by',by'=w1.heap.size+1:=⟨_,rfl⟩
 obtain⟨b,hb⟩:=Zn (w1.heap.size+1+1);have s0:W0.heap.size=by':=by rw[hW0,World.size_alloc,hby]
 have s1:W1.heap.size=b:=by rw[hW1,World.size_alloc,s0,hb,hby]
 have KW:Hid (Keep w1 W):=by rw[hW,hW1,hW0];exact((Keep.one _ _).alloc _:Keep w1 _).alloc _
 have BX:Hid (W.heap[bx]?=some (.cells (⟨d,A,N,c,B,m,e⟩:RcV).arr 30 (0,0))):=by show _=_;rw[hW,hW1,hW0,hbx];exact(Keep.one _ _).block ((Keep.one _ _).block (heap_alloc_new _ _))
 have BY:Hid (W.heap[by']?=some (.cells #[.int .i64 kd,.slice A2 n2 c2] 56 (0,0))):=by show _=_;rw[hW,hW1,<- s0];exact(Keep.one _ _).block (heap_alloc_new _ _)
 have BZ:Hid (W.heap[b]?=some (.cells zrc.arr 30 (0,0))):=by show _=_;rw[hW,<- s1];exact heap_alloc_new _ _
 have cW:=Zq (zgz A2 n2 c2 Z (d:Int) W (hV.keep (k.trans KW.out)));have cF:Hid (Calls Tryz.prog 44 #[(⟨d,A,N,c,B,m,e⟩:RcV).val,.int .i64 kd] W fun e' w'=>e'=.returned (.int .i64 (findN P kd N))/\Keep W w'):=(zgr (⟨d,A,N,c,B,m,e⟩:RcV) P kd W (h.rd.keep KW.out)).mono fun _ _ ⟨he,e2⟩=>⟨he,by rw[e2];exact Keep.one _ _⟩
 have hm:max (d:Int) 0=d:=by omega
 have hb1:decide (0<=(d:Int))=true:=decide_eq_true (by omega)
 have hb2:decide ((d:Int)<0)=false:=decide_eq_false (by omega)
 have hns:¬(1024:Int)<=(N:Int):=by omega
 have hML:M.length=N:=by rw[<- hM,List.length_map,lst_len]
 have fk:=find_iff (P:=P) (id:=kd) (n:=N);have hkk:nk M=keys (lst P N):=by rw[<- hM,zmu]
 obtain⟨c0,c1,c2',cf⟩:=zab BX.out;have y0:W.cell? ⟨by',0,none⟩=some (.int .i64 kd):=by rw[cell_of_row W by' _ _ _ _ BY.out];rfl
 have y1:W.cell? ⟨by',1,none⟩=some (.slice A2 n2 c2):=by rw[cell_of_row W by' _ _ _ _ BY.out];rfl
 obtain⟨z0,z1,z2,zf⟩:=zab BZ.out;obtain⟨r,hr⟩:=Zn (zak n2 Z d);rw[<- hr] at cW;have h':=Zq h;have k':=Zq k;unfold zrc at z0 z1 z2;simp only[RcV.arr] at hW0;simp only[RcV.arr,zrc] at hW;simp only[RcV.val] at cF ⊢;have c0e:=c0;have c1e:=c1;have c2e:=c2';have y1e:=y1;rw[hW,hW1,hW0] at c0e c1e c2e y1e;have had:adC M d kd n2 Z=0:=by unfold adC;rw[if_neg hw,if_neg hin,if_neg (by omega)]
 have hwi:wrI d n2 Z=0:=by unfold wrI;rw[if_neg hw]
 rw[had,hwi];replace hwi:=Zq hwi;have hnd:=Zq (wrong_no hw).1;rw[<- hr] at hw;have hf0:findN P kd N<0:=by have:=mt fk.1 (by rw[<- hkk];exact hin);omega
 have fin4':Hid (∀ x:NdC,x=⟨kd,A2,n2,c2,Z⟩->(lst (row (zbc x (lst P N))) (N+1)).map nv=adL M d kd n2 Z):=fun x hx=>by
  have el:(zbc x (lst P N)).length=N+1:=by rw[ins_len,lst_len]
  have e2:lst (row (zbc x (lst P N))) (N+1)=zbc x (lst P N):=by rw[<- el];exact lst_row _
  unfold adL;rw[if_pos had,e2,abf,hM,hx];rfl
 have hsP:Hid (Srt (lst P N)):=aln.2 (by rw[hM];exact hs)
 have hki:=Zq hk;have rV:=Zq (And.intro hV nilV);have hLen:=h.cap;have hpl:(A=none/\N=0/\c=0)\/∃ g off,A=some ⟨g,off,none⟩:=h.pl.imp id fun ⟨g,e,_⟩=>⟨g,0,e⟩
 have RW:=h.rd.keep KW.out;clear h hV k nilV;replace had:=Zq had;replace hin:=Zq hin;replace hr:=Zq hr;replace fk:=Zq fk;replace hkk:=Zq hkk;replace hML:=Zq hML;replace hM:=Zq hM;replace hs:=Zq hs;obtain⟨q,hq⟩:=Zn (findN P kd N);rw[<- hq] at cF hf0;replace hq:=Zq hq
 go_enter Tryz.func27,Tryz.ntmps27
 go_wp2_with fail;rw[<- hW0,<- hW1,<- hW,<- hb];try rw[<- hby]
 try rw[<- hbx]
 clear c0e c1e c2e y1e;replace hb:=Zq hb;replace hby:=Zq hby
 replace hbx:=Zq hbx;replace s0:=Zq s0;replace s1:=Zq s1;replace hW0:=Zq hW0;replace hW1:=Zq hW1;replace hW:=Zq hW;refine cW.out.mono ?_;rintro e' wA ⟨rfl,rfl⟩;go_wp2_with fail;refine cF.out.mono ?_;rintro e' w3 ⟨rfl,k3⟩;replace k3:=Zq k3;clear c0 c1 c2' cf y0 y1 z0 z1 z2 zf cF cW;have BX3:Hid (w3.heap[bx]?=some (.cells (⟨d,A,N,c,B,m,e⟩:RcV).arr 30 (0,0))):=k3.out.block BX.out;have BY3:Hid (w3.heap[by']?=some (.cells #[.int .i64 kd,.slice A2 n2 c2] 56 (0,0))):=k3.out.block BY.out
 have BZ3:Hid (w3.heap[b]?=some (.cells zrc.arr 30 (0,0))):=k3.out.block BZ.out;obtain⟨c0,c1,c2',cf⟩:=zab BX3.out;have y0:w3.cell? ⟨by',0,none⟩=some (.int .i64 kd):=by rw[cell_of_row w3 by' _ _ _ _ BY3.out];rfl
 obtain⟨z0,z1,z2,zf⟩:=zab BZ3.out;unfold zrc at z0 z1 z2;rcases hpl with ⟨rfl,rfl,rfl⟩ | ⟨gn,off,rfl⟩
 ·replace RW:=Zq RW
  go_wp2
  go_loopg [8] 0 (fun gx s8 wr=>s8=.int .i64 0/\Hid (Gr w3 wr))
  case atStart=>exact⟨rfl,Gr.refl _⟩
  case round =>
   obtain⟨rfl,GQ⟩:=hrel;go_wp2_with fail
   go_quiet (fail)
   have G2:Hid (Gr w3 (wr.drewN nq)):=GQ.out.drewN nq;generalize wr.drewN nq=w2 at G2 ⊢;clear c0 c1 c2' cf y0 z0 z1 z2 zf;have K2:Hid (Keep w3 w2):=G2.out.keep;obtain⟨x,hx⟩:∃ x:NdC,x=⟨kd,A2,n2,c2,Z⟩:=⟨_,rfl⟩;have ex:Hid (x.k=kd):=by rw[hx];exact rfl
   have B2:Hid (w2.heap[by']?=some (.cells #[.int .i64 x.k,.slice x.A x.n x.c] 56 (0,0))):=by rw[hx];exact K2.out.block BY3.out
   have fin2:Hid (zau P (0)++x.cells++zau (fun t=>P ((0)+t)) (0 - (0))=zau (row (zbc x (lst P 0))) (0+1)):=ins_row (by omega) hsP.out (fun t h1 h2=>(zcs _ _).2 (by rw[ex.out];exact absurd h2 (by omega))) (Or.inl rfl)
   have okx:Hid (zxp x):=⟨by rw[ex.out];exact hki.out,trivial⟩
   have rx:Hid (Rd w x.A x.n x.C/\(x.A=none->x.n=0/\x.c=0)):=by rw[hx];exact rV.out
   have fin3:Hid (∀ (B5:Option Addr) (d5:Nat) (w5:World),Keep w2 w5->w5.ownsRow w2.heap.size 56 2 (.slice B5 (0+1) d5) (0+1) (zau (row (zbc x (lst P 0))) (0+1))->_):=fun B5 d5 w5 k5 ho=>zpo (d:=d) (B:=B) (m:=m) (e:=e) (bx:=bx) (b:=b) h'.out (by have:=hbx.out;omega) (by have:=hb.out;omega) (by have:=hb.out;have:=hbx.out;omega) x okx.out rx.out.1 rx.out.2 (K2.out.trans k5) (KW.out.trans k3.out) (lt_of_block BX3.out) (lt_of_block BZ3.out) ((K2.out.trans k5).block BZ3.out) K2.out.size (by omega) ho
   have fin4:Hid ((lst (row (zbc x (lst P 0))) (0+1)).map nv=adL M d kd n2 Z):=fin4'.out x hx;have fin5:Hid ((∀ j,j<0->(P j).n=d)->∀ j,j<0+1->(row (zbc x (lst P 0)) j).n=d):=zzw (by rw[hx];exact hnd.out)
   have x0:w2.cell? ⟨by',0,none⟩=some (.int .i64 x.k):=by rw[cell_of_row w2 by' _ _ _ _ B2.out];rfl
   have x1:w2.cell? ⟨by',1,none⟩=some (.slice x.A x.n x.c):=by rw[cell_of_row w2 by' _ _ _ _ B2.out];rfl
   replace BX3:Hid (w2.heap[bx]?=_):=K2.out.block BX3.out;replace BZ3:Hid (w2.heap[b]?=_):=K2.out.block BZ3.out;obtain⟨c0,c1,c2',cf⟩:=zab BX3.out;simp only at c0 c1 c2';replace c0:=Zq c0;replace c2':=Zq c2';replace cf:=Zq cf;have hbl:=zbl x0;have hbl2:=zbl c1;have hxy:Hid (bx≠by'):=by have:=hbx.out;have:=hby.out;show bx≠by';omega
   replace hx:=Zq hx;go_upto_region 11 with fail
   go_cut [62] from 49 to 63 (fun s wx=>∃ (B5:Option Addr) (d5:Nat) (w5:World),s=.slice B5 (0+1) d5/\wx=w5.setCell ⟨bx,1,none⟩ (.slice B5 (0+1) d5)/\Hid (Keep w2 w5)/\Hid (w5.ownsRow w2.heap.size 56 2 (.slice B5 (0+1) d5) (0+1) (zau (row (zbc x (lst P 0))) (0+1))))
   case first =>
    have HELD:∀ Wz,Keep w2 Wz->(Wz.cell? ⟨bx,1,none⟩=some (.slice (none) 0 0)/\Wz.cell? ⟨by',0,none⟩=some (.int .i64 x.k)/\Wz.cell? ⟨by',1,none⟩=some (.slice x.A x.n x.c)):=fun Wz KK=>⟨KK.cell c1,KK.cell x0,KK.cell x1⟩
    refine OrdM.rest_start (fun w'=>w'.cell? ⟨bx,1,none⟩=some (.slice (none) 0 0)/\w'.cell? ⟨by',0,none⟩=some (.int .i64 x.k)/\w'.cell? ⟨by',1,none⟩=some (.slice x.A x.n x.c)) 15 (by kernel_rfl) ?_ (fun hHeld=>?_)
    ·exact HELD _ (Keep.refl w2).drew
    obtain⟨wt0,hwt0⟩:=Zn (w2.drew);have Kwt0:Hid (Keep w2 wt0):=by rw[hwt0];exact(Keep.refl _).drew
    rw[<- hwt0] at hHeld ⊢;replace hwt0:=Zq hwt0;refine OrdM.rt 1 (.pointer (some ⟨bx,1,none⟩)) hHeld ?_
    simp only[Act.put,Zp];refine OrdM.rt 2 (.slice (none) 0 0) hHeld ?_
    simp only[Act.put,Zp];refine OrdM.rt 3 (.int .i64 (0)) hHeld ?_
    simp only[Act.put,Zp];refine OrdM.rt 4 (.slice none 0 0) hHeld ?_
    simp only[Act.put,Zp];refine OrdM.rt 6 (.agg #[.int .i64 x.k,.slice x.A x.n x.c]) hHeld ?_
    simp only[Act.put,Zp];refine OrdM.rt 9 (.pointer (some ⟨bx,1,none⟩)) hHeld ?_
    simp only[Act.put,Zp];refine OrdM.rt 10 (.slice (none) 0 0) hHeld ?_
    simp only[Act.put,Zp];refine OrdM.rt 11 (.int .i64 (0)) hHeld ?_
    simp only[Act.put,Zp];refine OrdM.rt 12 (.slice none 0 0) hHeld ?_
    simp only[Act.put,Zp];refine OrdM.rest_ready (rs:=[0,7]) (by kernel_rfl) (by simp) ?_
    refine(OrdM.Each.cons rfl (fun K hK=>?_) (OrdM.Each.cons rfl (fun K hK=>?_) OrdM.Each.nil))
    ·simp only[Zp]
     rw[if_pos (by rfl)]
     go_simp
     obtain⟨wt1,hwt1⟩:=Zn (wt0.alloc (.cells #[] 56));have Jwt1:Hid (Keep wt0 wt1):=by rw[hwt1];exact Keep.one _ _
     have Kwt1:Hid (Keep w2 wt1):=Kwt0.out.trans Jwt1.out;have F0:Hid (wt1.heap[wt0.heap.size]?=some (.cells #[] 56 (0,0))):=by rw[hwt1];exact heap_alloc_new _ _
     rw[<- hwt1];replace hwt1:=Zq hwt1;refine hK.out _ _ (fun _=>HELD _ Kwt1.out) ?_
     have hHeld:=HELD _ Kwt1.out;clear hK K;try simp only[Act.put,Zp]
     refine OrdM.rest_ready (rs:=[5,7]) (by kernel_rfl) (by simp) ?_
     refine(OrdM.Each.cons rfl (fun K hK=>?_) (OrdM.Each.cons rfl (fun K hK=>?_) OrdM.Each.nil))
     ·simp only[Zp]
      rw[if_pos (by rfl)]
      refine zcf rfl (.tmp 49) (.tmp 53) rfl w2.heap.size (.slice (some ⟨wt0.heap.size,0,none⟩) 0 0) 0 [] (by simp[Act.eval]) (zdh Kwt0.out.size F0.out) (.slice none 0 0) (0) (zau P (0)) (by simp[Act.eval]) ((fun (_:Keep _ _)=>(.inl ⟨rfl,rfl,rfl⟩:zdq _ _ _ _)) (K2.out.trans Kwt1.out)) (zbp _ _) (by omega) Kwt1.out.size _ (Nat.zero_add _) ?_
      intro v3 wt2 R hg3;have Kwt2:Hid (Keep w2 wt2):=zad Kwt1.out hg3 (fun q hq=>by simp[Value.ownBlock] at hq;have:=Kwt0.out.size;omega)
      simp only[List.nil_append] at R;replace R:=Zq R;replace hg3:=Zq hg3;clear F0;refine hK.out _ _ (fun _=>HELD _ Kwt2.out) ?_
      have hHeld:=HELD _ Kwt2.out;clear hK K;try simp only[Act.put,Zp]
      refine OrdM.rest_ready (rs:=[7]) (by kernel_rfl) (by simp) ?_
      refine(OrdM.Each.cons rfl (fun K hK=>?_) OrdM.Each.nil)
      simp only[Zp];rw[if_pos (by rfl)]
      go_simp
      obtain⟨wt3,hwt3⟩:=Zn (wt2.alloc (.cells #[.int .i64 x.k,.slice x.A x.n x.c] 56));have Jwt3:Hid (Keep wt2 wt3):=by rw[hwt3];exact Keep.one _ _
      have Kwt3:Hid (Keep w2 wt3):=Kwt2.out.trans Jwt3.out;replace R:Hid (World.ownsRow wt3 _ _ _ _ _ _):=zal R.out Jwt3.out;have F7:Hid (wt3.heap[wt2.heap.size]?=some (.cells #[.int .i64 x.k,.slice x.A x.n x.c] 56 (0,0))):=by rw[hwt3];exact heap_alloc_new _ _
      rw[<- hwt3];replace hwt3:=Zq hwt3;refine hK.out _ _ (fun _=>HELD _ Kwt3.out) ?_
      have hHeld:=HELD _ Kwt3.out;clear hK K;try simp only[Act.put,Zp]
      refine OrdM.rest_ready (rs:=[8]) (by kernel_rfl) (by simp) ?_
      refine(OrdM.Each.cons rfl (fun K hK=>?_) OrdM.Each.nil)
      simp only[Zp];rw[if_pos (by rfl)]
      refine zcf rfl (.tmp 54) (.tmp 56) rfl w2.heap.size v3 (0) (zau P (0)) (by simp[Act.eval]) R.out (.slice (some ⟨wt2.heap.size,0,none⟩) 1 1) 1 x.cells (by simp[Act.eval]) (zbh F7.out) (cells_one _) (by omega) Kwt3.out.size _ rfl ?_
      intro v4 wt4 R4 hg4;have Kwt4:Hid (Keep w2 wt4):=zad Kwt3.out hg4 (fun q hq=>(R.out.lt q hq).1)
      clear R F7;replace R4:=Zq R4;replace hg4:=Zq hg4;refine hK.out _ _ (fun _=>HELD _ Kwt4.out) ?_
      have hHeld:=HELD _ Kwt4.out;clear hK K;try simp only[Act.put,Zp]
      refine OrdM.rest_ready (rs:=[13]) (by kernel_rfl) (by simp) ?_
      refine(OrdM.Each.cons rfl (fun K hK=>?_) OrdM.Each.nil)
      simp only[Zp];rw[if_pos (by rfl)]
      refine zcf rfl (.tmp 57) (.tmp 61) rfl w2.heap.size v4 (0+1) (zau P (0)++x.cells) (by simp[Act.eval]) R4.out (.slice none 0 0) (0 - (0)) (zau (fun t=>P ((0)+t)) (0 - (0))) (by simp[Act.eval]) ((fun (_:Keep _ _)=>zqp _ P) (K2.out.trans Kwt4.out)) (zbp _ _) (by omega) Kwt4.out.size (0+1) (by omega) ?_
      intro v5 wt5 R5 hg5;have Kwt5:Hid (Keep w2 wt5):=zad Kwt4.out hg5 (fun q hq=>(R4.out.lt q hq).1)
      obtain⟨B5,d5,hv5,_⟩:=zan R5;subst hv5;clear R4;replace R5:=Zq R5;replace hg5:=Zq hg5;refine hK.out _ _ (fun _=>HELD _ Kwt5.out) ?_
      have hHeld:=HELD _ Kwt5.out;clear hK K;try simp only[Act.put,Zp]
      refine OrdM.rt 14 (.pointer (some ⟨bx,1,none⟩)) hHeld ?_
      simp only[Act.put,Zp];refine OrdM.rest_ready (rs:=[15]) (by kernel_rfl) (by simp) ?_
      refine OrdM.Each.cons rfl (fun K hK=>?_) OrdM.Each.nil
      simp only[Zp];rw[if_pos (by rfl)]
      have g1:=Kwt5.out.cell c1;have gf:=(zab (Kwt5.out.block BX3.out)).2.2.2
      go_simp
      refine hK.out _ _ (fun e=>absurd rfl e) ?_
      clear hK K g1 gf;refine OrdM.rest_done (by kernel_rfl) ?_ _
      go_wp2_with fail;go_meet
      case rel=>exact⟨B5,d5,wt5,rfl,rfl,Kwt5.out,by show World.ownsRow _ _ _ _ _ _ _;rw[<- fin2.out];exact R5.out⟩
     ·simp only[Zp]
      rw[if_pos (by rfl)]
      go_simp
      obtain⟨wt6,hwt6⟩:=Zn (wt1.alloc (.cells #[.int .i64 x.k,.slice x.A x.n x.c] 56));have Jwt6:Hid (Keep wt1 wt6):=by rw[hwt6];exact Keep.one _ _
      have Kwt6:Hid (Keep w2 wt6):=Kwt1.out.trans Jwt6.out;have LL:Hid (wt0.heap.size<wt1.heap.size):=(Array.getElem?_eq_some_iff.1 F0.out).1;replace F0:Hid (wt6.heap[wt0.heap.size]?=some _):=Jwt6.out.block F0.out;have F7:Hid (wt6.heap[wt1.heap.size]?=some (.cells #[.int .i64 x.k,.slice x.A x.n x.c] 56 (0,0))):=by rw[hwt6];exact heap_alloc_new _ _
      rw[<- hwt6];replace hwt6:=Zq hwt6;refine hK.out _ _ (fun _=>HELD _ Kwt6.out) ?_
      have hHeld:=HELD _ Kwt6.out;clear hK K;try simp only[Act.put,Zp]
      refine OrdM.rest_ready (rs:=[5]) (by kernel_rfl) (by simp) ?_
      refine(OrdM.Each.cons rfl (fun K hK=>?_) OrdM.Each.nil)
      simp only[Zp];rw[if_pos (by rfl)]
      refine zcf rfl (.tmp 49) (.tmp 53) rfl w2.heap.size (.slice (some ⟨wt0.heap.size,0,none⟩) 0 0) 0 [] (by simp[Act.eval]) (zdh Kwt0.out.size F0.out) (.slice none 0 0) (0) (zau P (0)) (by simp[Act.eval]) ((fun (_:Keep _ _)=>(.inl ⟨rfl,rfl,rfl⟩:zdq _ _ _ _)) (K2.out.trans Kwt6.out)) (zbp _ _) (by omega) Kwt6.out.size _ (Nat.zero_add _) ?_
      intro v3 wt7 R hg3;have Kwt7:Hid (Keep w2 wt7):=zad Kwt6.out hg3 (fun q hq=>by simp[Value.ownBlock] at hq;have:=Kwt0.out.size;omega)
      simp only[List.nil_append] at R;replace R:=Zq R;replace F7:Hid (wt7.heap[wt1.heap.size]?=some _):=(hg3.block _ (Array.getElem?_eq_some_iff.1 F7.out).1 (by have:=LL.out;simp[Value.ownBlock];omega)).trans F7.out
      replace hg3:=Zq hg3;clear F0;refine hK.out _ _ (fun _=>HELD _ Kwt7.out) ?_
      have hHeld:=HELD _ Kwt7.out;clear hK K;try simp only[Act.put,Zp]
      refine OrdM.rest_ready (rs:=[8]) (by kernel_rfl) (by simp) ?_
      refine(OrdM.Each.cons rfl (fun K hK=>?_) OrdM.Each.nil)
      simp only[Zp];rw[if_pos (by rfl)]
      refine zcf rfl (.tmp 54) (.tmp 56) rfl w2.heap.size v3 (0) (zau P (0)) (by simp[Act.eval]) R.out (.slice (some ⟨wt1.heap.size,0,none⟩) 1 1) 1 x.cells (by simp[Act.eval]) (zbh F7.out) (cells_one _) (by omega) Kwt7.out.size _ rfl ?_
      intro v4 wt8 R4 hg4;have Kwt8:Hid (Keep w2 wt8):=zad Kwt7.out hg4 (fun q hq=>(R.out.lt q hq).1)
      clear R F7;replace R4:=Zq R4;replace hg4:=Zq hg4;refine hK.out _ _ (fun _=>HELD _ Kwt8.out) ?_
      have hHeld:=HELD _ Kwt8.out;clear hK K;try simp only[Act.put,Zp]
      refine OrdM.rest_ready (rs:=[13]) (by kernel_rfl) (by simp) ?_
      refine(OrdM.Each.cons rfl (fun K hK=>?_) OrdM.Each.nil)
      simp only[Zp];rw[if_pos (by rfl)]
      refine zcf rfl (.tmp 57) (.tmp 61) rfl w2.heap.size v4 (0+1) (zau P (0)++x.cells) (by simp[Act.eval]) R4.out (.slice none 0 0) (0 - (0)) (zau (fun t=>P ((0)+t)) (0 - (0))) (by simp[Act.eval]) ((fun (_:Keep _ _)=>zqp _ P) (K2.out.trans Kwt8.out)) (zbp _ _) (by omega) Kwt8.out.size (0+1) (by omega) ?_
      intro v5 wt9 R5 hg5;have Kwt9:Hid (Keep w2 wt9):=zad Kwt8.out hg5 (fun q hq=>(R4.out.lt q hq).1)
      obtain⟨B5,d5,hv5,_⟩:=zan R5;subst hv5;clear R4;replace R5:=Zq R5;replace hg5:=Zq hg5;refine hK.out _ _ (fun _=>HELD _ Kwt9.out) ?_
      have hHeld:=HELD _ Kwt9.out;clear hK K;try simp only[Act.put,Zp]
      refine OrdM.rt 14 (.pointer (some ⟨bx,1,none⟩)) hHeld ?_
      simp only[Act.put,Zp];refine OrdM.rest_ready (rs:=[15]) (by kernel_rfl) (by simp) ?_
      refine OrdM.Each.cons rfl (fun K hK=>?_) OrdM.Each.nil
      simp only[Zp];rw[if_pos (by rfl)]
      have g1:=Kwt9.out.cell c1;have gf:=(zab (Kwt9.out.block BX3.out)).2.2.2
      go_simp
      refine hK.out _ _ (fun e=>absurd rfl e) ?_
      clear hK K g1 gf;refine OrdM.rest_done (by kernel_rfl) ?_ _
      go_wp2_with fail;go_meet
      case rel=>exact⟨B5,d5,wt9,rfl,rfl,Kwt9.out,by show World.ownsRow _ _ _ _ _ _ _;rw[<- fin2.out];exact R5.out⟩
    ·simp only[Zp]
     rw[if_pos (by rfl)]
     go_simp
     obtain⟨wt10,hwt10⟩:=Zn (wt0.alloc (.cells #[.int .i64 x.k,.slice x.A x.n x.c] 56));have Jwt10:Hid (Keep wt0 wt10):=by rw[hwt10];exact Keep.one _ _
     have Kwt10:Hid (Keep w2 wt10):=Kwt0.out.trans Jwt10.out;have F7:Hid (wt10.heap[wt0.heap.size]?=some (.cells #[.int .i64 x.k,.slice x.A x.n x.c] 56 (0,0))):=by rw[hwt10];exact heap_alloc_new _ _
     rw[<- hwt10];replace hwt10:=Zq hwt10;refine hK.out _ _ (fun _=>HELD _ Kwt10.out) ?_
     have hHeld:=HELD _ Kwt10.out;clear hK K;try simp only[Act.put,Zp]
     refine OrdM.rest_ready (rs:=[0]) (by kernel_rfl) (by simp) ?_
     refine(OrdM.Each.cons rfl (fun K hK=>?_) OrdM.Each.nil)
     simp only[Zp];rw[if_pos (by rfl)]
     go_simp
     obtain⟨wt11,hwt11⟩:=Zn (wt10.alloc (.cells #[] 56));have Jwt11:Hid (Keep wt10 wt11):=by rw[hwt11];exact Keep.one _ _
     have Kwt11:Hid (Keep w2 wt11):=Kwt10.out.trans Jwt11.out;have LL:Hid (wt0.heap.size<wt10.heap.size):=(Array.getElem?_eq_some_iff.1 F7.out).1;replace F7:Hid (wt11.heap[wt0.heap.size]?=some _):=Jwt11.out.block F7.out;have F0:Hid (wt11.heap[wt10.heap.size]?=some (.cells #[] 56 (0,0))):=by rw[hwt11];exact heap_alloc_new _ _
     rw[<- hwt11];replace hwt11:=Zq hwt11;refine hK.out _ _ (fun _=>HELD _ Kwt11.out) ?_
     have hHeld:=HELD _ Kwt11.out;clear hK K;try simp only[Act.put,Zp]
     refine OrdM.rest_ready (rs:=[5]) (by kernel_rfl) (by simp) ?_
     refine(OrdM.Each.cons rfl (fun K hK=>?_) OrdM.Each.nil)
     simp only[Zp];rw[if_pos (by rfl)]
     refine zcf rfl (.tmp 49) (.tmp 53) rfl w2.heap.size (.slice (some ⟨wt10.heap.size,0,none⟩) 0 0) 0 [] (by simp[Act.eval]) (zdh Kwt10.out.size F0.out) (.slice none 0 0) (0) (zau P (0)) (by simp[Act.eval]) ((fun (_:Keep _ _)=>(.inl ⟨rfl,rfl,rfl⟩:zdq _ _ _ _)) (K2.out.trans Kwt11.out)) (zbp _ _) (by omega) Kwt11.out.size _ (Nat.zero_add _) ?_
     intro v3 wt12 R hg3;have Kwt12:Hid (Keep w2 wt12):=zad Kwt11.out hg3 (fun q hq=>by simp[Value.ownBlock] at hq;have:=Kwt10.out.size;omega)
     simp only[List.nil_append] at R;replace R:=Zq R;replace F7:Hid (wt12.heap[wt0.heap.size]?=some _):=(hg3.block _ (Array.getElem?_eq_some_iff.1 F7.out).1 (by have:=LL.out;simp[Value.ownBlock];omega)).trans F7.out
     replace hg3:=Zq hg3;clear F0;refine hK.out _ _ (fun _=>HELD _ Kwt12.out) ?_
     have hHeld:=HELD _ Kwt12.out;clear hK K;try simp only[Act.put,Zp]
     refine OrdM.rest_ready (rs:=[8]) (by kernel_rfl) (by simp) ?_
     refine(OrdM.Each.cons rfl (fun K hK=>?_) OrdM.Each.nil)
     simp only[Zp];rw[if_pos (by rfl)]
     refine zcf rfl (.tmp 54) (.tmp 56) rfl w2.heap.size v3 (0) (zau P (0)) (by simp[Act.eval]) R.out (.slice (some ⟨wt0.heap.size,0,none⟩) 1 1) 1 x.cells (by simp[Act.eval]) (zbh F7.out) (cells_one _) (by omega) Kwt12.out.size _ rfl ?_
     intro v4 wt13 R4 hg4;have Kwt13:Hid (Keep w2 wt13):=zad Kwt12.out hg4 (fun q hq=>(R.out.lt q hq).1)
     clear R F7;replace R4:=Zq R4;replace hg4:=Zq hg4;refine hK.out _ _ (fun _=>HELD _ Kwt13.out) ?_
     have hHeld:=HELD _ Kwt13.out;clear hK K;try simp only[Act.put,Zp]
     refine OrdM.rest_ready (rs:=[13]) (by kernel_rfl) (by simp) ?_
     refine(OrdM.Each.cons rfl (fun K hK=>?_) OrdM.Each.nil)
     simp only[Zp];rw[if_pos (by rfl)]
     refine zcf rfl (.tmp 57) (.tmp 61) rfl w2.heap.size v4 (0+1) (zau P (0)++x.cells) (by simp[Act.eval]) R4.out (.slice none 0 0) (0 - (0)) (zau (fun t=>P ((0)+t)) (0 - (0))) (by simp[Act.eval]) ((fun (_:Keep _ _)=>zqp _ P) (K2.out.trans Kwt13.out)) (zbp _ _) (by omega) Kwt13.out.size (0+1) (by omega) ?_
     intro v5 wt14 R5 hg5;have Kwt14:Hid (Keep w2 wt14):=zad Kwt13.out hg5 (fun q hq=>(R4.out.lt q hq).1)
     obtain⟨B5,d5,hv5,_⟩:=zan R5;subst hv5;clear R4;replace R5:=Zq R5;replace hg5:=Zq hg5;refine hK.out _ _ (fun _=>HELD _ Kwt14.out) ?_
     have hHeld:=HELD _ Kwt14.out;clear hK K;try simp only[Act.put,Zp]
     refine OrdM.rt 14 (.pointer (some ⟨bx,1,none⟩)) hHeld ?_
     simp only[Act.put,Zp];refine OrdM.rest_ready (rs:=[15]) (by kernel_rfl) (by simp) ?_
     refine OrdM.Each.cons rfl (fun K hK=>?_) OrdM.Each.nil
     simp only[Zp];rw[if_pos (by rfl)]
     have g1:=Kwt14.out.cell c1;have gf:=(zab (Kwt14.out.block BX3.out)).2.2.2
     go_simp
     refine hK.out _ _ (fun e=>absurd rfl e) ?_
     clear hK K g1 gf;refine OrdM.rest_done (by kernel_rfl) ?_ _
     go_wp2_with fail;go_meet
     case rel=>exact⟨B5,d5,wt14,rfl,rfl,Kwt14.out,by show World.ownsRow _ _ _ _ _ _ _;rw[<- fin2.out];exact R5.out⟩
   case rest =>
    obtain⟨B5,d5,w5,rfl,rfl,K5,RF⟩:=hcut;obtain⟨F1,F2,F3⟩:=fin3.out B5 d5 w5 K5.out RF.out;replace F1:=Zq F1;replace F2:=Zq F2;replace F3:=Zq F3;have hne:bx≠b:=by have:=hb.out;have:=hbx.out;omega
    obtain⟨z0,z1,z2,zf⟩:=zab (K5.out.block BZ3.out);obtain⟨g0,g1,g2,gf⟩:=zab (K5.out.block BX3.out);unfold zrc at z0 z1 z2;simp only at z0 z1 z2 g0 g1 g2;clear x0 x1 c1;go_wp2;obtain⟨e0,e1,e2,_⟩:=zab F1.out;simp only[zav] at *;refine bodyPost_ret (v:=.tuple #[.agg #[.int .i64 d,.slice B5 (0+1) d5,.slice B m e],.int .i64 0,.int .i64 0]) (by simp[results,Tryz.results27,go_sem,e0,e1,e2]) rfl ?_
    first
     | exact⟨B5,d5,0+1,_,rfl,F2.out,F3.out,fin4.out,fin5.out⟩
     | exact⟨B5,d5,0+1,rfl,F2.out,_,F3.out,fin4.out,fin5.out⟩
     | exact⟨B5,d5,0+1,_,rfl,F2.out,F3.out,fin4.out,fin5.out fun _ hj=>absurd hj (Nat.not_lt_zero _)⟩
     | exact⟨B5,d5,0+1,rfl,F2.out,_,F3.out,fin4.out,fin5.out fun _ hj=>absurd hj (Nat.not_lt_zero _)⟩
 ·have CA:Hid (∀ j,j<N->CelN w3 gn (off+j * 2) (P j)):=fun j hj=>by
   obtain⟨b',off',e',ca⟩:=(RW.keep k3.out).adr (by omega)
   have e2:=Option.some.inj e';simp only[Addr.mk.injEq,and_true] at e2;rw[e2.1,e2.2];exact ca j hj
  replace RW:=Zq RW;go_wp2
  go_loopg [8] N (fun gx s8 wr=>∃ j:Nat,s8=.int .i64 j/\j<=N/\j=gx/\Hid (Gr w3 wr)/\Hid (∀ t,j<=t->t<N->kd<(P t).k))
  case atStart=>exact⟨N,rfl,Nat.le_refl _,rfl,Gr.refl _,fun t h1 h2=>absurd h2 (by omega)⟩
  case round =>
   obtain⟨j,rfl,hji,rfl,GQ,CM⟩:=hrel;rcases Nat.eq_zero_or_pos j with rfl | hj0
   ·go_wp2_with fail
    go_quiet (fail)
    have G2:Hid (Gr w3 (wr.drewN nq)):=GQ.out.drewN nq;generalize wr.drewN nq=w2 at G2 ⊢;clear c0 c1 c2' cf y0 z0 z1 z2 zf;have K2:Hid (Keep w3 w2):=G2.out.keep;obtain⟨x,hx⟩:∃ x:NdC,x=⟨kd,A2,n2,c2,Z⟩:=⟨_,rfl⟩;have ex:Hid (x.k=kd):=by rw[hx];exact rfl
    have B2:Hid (w2.heap[by']?=some (.cells #[.int .i64 x.k,.slice x.A x.n x.c] 56 (0,0))):=by rw[hx];exact K2.out.block BY3.out
    have fin2:Hid (zau P (0)++x.cells++zau (fun t=>P ((0)+t)) (N - (0))=zau (row (zbc x (lst P N))) (N+1)):=ins_row (by omega) hsP.out (fun t h1 h2=>(zcs _ _).2 (by rw[ex.out];exact CM.out t (by omega) h2)) (Or.inl rfl)
    have okx:Hid (zxp x):=⟨by rw[ex.out];exact hki.out,trivial⟩
    have rx:Hid (Rd w x.A x.n x.C/\(x.A=none->x.n=0/\x.c=0)):=by rw[hx];exact rV.out
    have fin3:Hid (∀ (B5:Option Addr) (d5:Nat) (w5:World),Keep w2 w5->w5.ownsRow w2.heap.size 56 2 (.slice B5 (N+1) d5) (N+1) (zau (row (zbc x (lst P N))) (N+1))->_):=fun B5 d5 w5 k5 ho=>zpo (d:=d) (B:=B) (m:=m) (e:=e) (bx:=bx) (b:=b) h'.out (by have:=hbx.out;omega) (by have:=hb.out;omega) (by have:=hb.out;have:=hbx.out;omega) x okx.out rx.out.1 rx.out.2 (K2.out.trans k5) (KW.out.trans k3.out) (lt_of_block BX3.out) (lt_of_block BZ3.out) ((K2.out.trans k5).block BZ3.out) K2.out.size (by omega) ho
    have fin4:Hid ((lst (row (zbc x (lst P N))) (N+1)).map nv=adL M d kd n2 Z):=fin4'.out x hx;have fin5:Hid ((∀ j,j<N->(P j).n=d)->∀ j,j<N+1->(row (zbc x (lst P N)) j).n=d):=zzw (by rw[hx];exact hnd.out)
    have x0:w2.cell? ⟨by',0,none⟩=some (.int .i64 x.k):=by rw[cell_of_row w2 by' _ _ _ _ B2.out];rfl
    have x1:w2.cell? ⟨by',1,none⟩=some (.slice x.A x.n x.c):=by rw[cell_of_row w2 by' _ _ _ _ B2.out];rfl
    replace BX3:Hid (w2.heap[bx]?=_):=K2.out.block BX3.out;replace BZ3:Hid (w2.heap[b]?=_):=K2.out.block BZ3.out;obtain⟨c0,c1,c2',cf⟩:=zab BX3.out;simp only at c0 c1 c2';replace c0:=Zq c0;replace c2':=Zq c2';replace cf:=Zq cf;have hbl:=zbl x0;have hbl2:=zbl c1;have hxy:Hid (bx≠by'):=by have:=hbx.out;have:=hby.out;show bx≠by';omega
    replace hx:=Zq hx;go_upto_region 11 with fail
    go_cut [62] from 49 to 63 (fun s wx=>∃ (B5:Option Addr) (d5:Nat) (w5:World),s=.slice B5 (N+1) d5/\wx=w5.setCell ⟨bx,1,none⟩ (.slice B5 (N+1) d5)/\Hid (Keep w2 w5)/\Hid (w5.ownsRow w2.heap.size 56 2 (.slice B5 (N+1) d5) (N+1) (zau (row (zbc x (lst P N))) (N+1))))
    case first =>
     have HELD:∀ Wz,Keep w2 Wz->(Wz.cell? ⟨bx,1,none⟩=some (.slice (some ⟨gn,off,none⟩) N c)/\Wz.cell? ⟨by',0,none⟩=some (.int .i64 x.k)/\Wz.cell? ⟨by',1,none⟩=some (.slice x.A x.n x.c)):=fun Wz KK=>⟨KK.cell c1,KK.cell x0,KK.cell x1⟩
     refine OrdM.rest_start (fun w'=>w'.cell? ⟨bx,1,none⟩=some (.slice (some ⟨gn,off,none⟩) N c)/\w'.cell? ⟨by',0,none⟩=some (.int .i64 x.k)/\w'.cell? ⟨by',1,none⟩=some (.slice x.A x.n x.c)) 15 (by kernel_rfl) ?_ (fun hHeld=>?_)
     ·exact HELD _ (Keep.refl w2).drew
     obtain⟨wt0,hwt0⟩:=Zn (w2.drew);have Kwt0:Hid (Keep w2 wt0):=by rw[hwt0];exact(Keep.refl _).drew
     rw[<- hwt0] at hHeld ⊢;replace hwt0:=Zq hwt0;refine OrdM.rt 1 (.pointer (some ⟨bx,1,none⟩)) hHeld ?_
     simp only[Act.put,Zp];refine OrdM.rt 2 (.slice (some ⟨gn,off,none⟩) N c) hHeld ?_
     simp only[Act.put,Zp];refine OrdM.rt 3 (.int .i64 (0)) hHeld ?_
     simp only[Act.put,Zp];refine OrdM.rt 4 (.slice (some ⟨gn,off,none⟩) 0 c) hHeld ?_
     simp only[Act.put,Zp];refine OrdM.rt 6 (.agg #[.int .i64 x.k,.slice x.A x.n x.c]) hHeld ?_
     simp only[Act.put,Zp];refine OrdM.rt 9 (.pointer (some ⟨bx,1,none⟩)) hHeld ?_
     simp only[Act.put,Zp];refine OrdM.rt 10 (.slice (some ⟨gn,off,none⟩) N c) hHeld ?_
     simp only[Act.put,Zp];refine OrdM.rt 11 (.int .i64 (0)) hHeld ?_
     simp only[Act.put,Zp];refine OrdM.rt 12 (.slice (some ⟨gn,off,none⟩) N c) hHeld ?_
     simp only[Act.put,Zp];refine OrdM.rest_ready (rs:=[0,7]) (by kernel_rfl) (by simp) ?_
     refine(OrdM.Each.cons rfl (fun K hK=>?_) (OrdM.Each.cons rfl (fun K hK=>?_) OrdM.Each.nil))
     ·simp only[Zp]
      rw[if_pos (by rfl)]
      go_simp
      obtain⟨wt1,hwt1⟩:=Zn (wt0.alloc (.cells #[] 56));have Jwt1:Hid (Keep wt0 wt1):=by rw[hwt1];exact Keep.one _ _
      have Kwt1:Hid (Keep w2 wt1):=Kwt0.out.trans Jwt1.out;have F0:Hid (wt1.heap[wt0.heap.size]?=some (.cells #[] 56 (0,0))):=by rw[hwt1];exact heap_alloc_new _ _
      rw[<- hwt1];replace hwt1:=Zq hwt1;refine hK.out _ _ (fun _=>HELD _ Kwt1.out) ?_
      have hHeld:=HELD _ Kwt1.out;clear hK K;try simp only[Act.put,Zp]
      refine OrdM.rest_ready (rs:=[5,7]) (by kernel_rfl) (by simp) ?_
      refine(OrdM.Each.cons rfl (fun K hK=>?_) (OrdM.Each.cons rfl (fun K hK=>?_) OrdM.Each.nil))
      ·simp only[Zp]
       rw[if_pos (by rfl)]
       refine zcf rfl (.tmp 49) (.tmp 53) rfl w2.heap.size (.slice (some ⟨wt0.heap.size,0,none⟩) 0 0) 0 [] (by simp[Act.eval]) (zdh Kwt0.out.size F0.out) (.slice (some ⟨gn,off,none⟩) 0 c) (0) (zau P (0)) (by simp[Act.eval]) (zea CA.out (Nat.zero_le _) (K2.out.trans Kwt1.out)) (zbp _ _) (by omega) Kwt1.out.size _ (Nat.zero_add _) ?_
       intro v3 wt2 R hg3;have Kwt2:Hid (Keep w2 wt2):=zad Kwt1.out hg3 (fun q hq=>by simp[Value.ownBlock] at hq;have:=Kwt0.out.size;omega)
       simp only[List.nil_append] at R;replace R:=Zq R;replace hg3:=Zq hg3;clear F0;refine hK.out _ _ (fun _=>HELD _ Kwt2.out) ?_
       have hHeld:=HELD _ Kwt2.out;clear hK K;try simp only[Act.put,Zp]
       refine OrdM.rest_ready (rs:=[7]) (by kernel_rfl) (by simp) ?_
       refine(OrdM.Each.cons rfl (fun K hK=>?_) OrdM.Each.nil)
       simp only[Zp];rw[if_pos (by rfl)]
       go_simp
       obtain⟨wt3,hwt3⟩:=Zn (wt2.alloc (.cells #[.int .i64 x.k,.slice x.A x.n x.c] 56));have Jwt3:Hid (Keep wt2 wt3):=by rw[hwt3];exact Keep.one _ _
       have Kwt3:Hid (Keep w2 wt3):=Kwt2.out.trans Jwt3.out;replace R:Hid (World.ownsRow wt3 _ _ _ _ _ _):=zal R.out Jwt3.out;have F7:Hid (wt3.heap[wt2.heap.size]?=some (.cells #[.int .i64 x.k,.slice x.A x.n x.c] 56 (0,0))):=by rw[hwt3];exact heap_alloc_new _ _
       rw[<- hwt3];replace hwt3:=Zq hwt3;refine hK.out _ _ (fun _=>HELD _ Kwt3.out) ?_
       have hHeld:=HELD _ Kwt3.out;clear hK K;try simp only[Act.put,Zp]
       refine OrdM.rest_ready (rs:=[8]) (by kernel_rfl) (by simp) ?_
       refine(OrdM.Each.cons rfl (fun K hK=>?_) OrdM.Each.nil)
       simp only[Zp];rw[if_pos (by rfl)]
       refine zcf rfl (.tmp 54) (.tmp 56) rfl w2.heap.size v3 (0) (zau P (0)) (by simp[Act.eval]) R.out (.slice (some ⟨wt2.heap.size,0,none⟩) 1 1) 1 x.cells (by simp[Act.eval]) (zbh F7.out) (cells_one _) (by omega) Kwt3.out.size _ rfl ?_
       intro v4 wt4 R4 hg4;have Kwt4:Hid (Keep w2 wt4):=zad Kwt3.out hg4 (fun q hq=>(R.out.lt q hq).1)
       clear R F7;replace R4:=Zq R4;replace hg4:=Zq hg4;refine hK.out _ _ (fun _=>HELD _ Kwt4.out) ?_
       have hHeld:=HELD _ Kwt4.out;clear hK K;try simp only[Act.put,Zp]
       refine OrdM.rest_ready (rs:=[13]) (by kernel_rfl) (by simp) ?_
       refine(OrdM.Each.cons rfl (fun K hK=>?_) OrdM.Each.nil)
       simp only[Zp];rw[if_pos (by rfl)]
       refine zcf rfl (.tmp 57) (.tmp 61) rfl w2.heap.size v4 (0+1) (zau P (0)++x.cells) (by simp[Act.eval]) R4.out (.slice (some ⟨gn,off,none⟩) N c) (N - (0)) (zau (fun t=>P ((0)+t)) (N - (0))) (by simp[Act.eval]) (zjx CA.out (K2.out.trans Kwt4.out)) (zbp _ _) (by omega) Kwt4.out.size (N+1) (by omega) ?_
       intro v5 wt5 R5 hg5;have Kwt5:Hid (Keep w2 wt5):=zad Kwt4.out hg5 (fun q hq=>(R4.out.lt q hq).1)
       obtain⟨B5,d5,hv5,_⟩:=zan R5;subst hv5;clear R4;replace R5:=Zq R5;replace hg5:=Zq hg5;refine hK.out _ _ (fun _=>HELD _ Kwt5.out) ?_
       have hHeld:=HELD _ Kwt5.out;clear hK K;try simp only[Act.put,Zp]
       refine OrdM.rt 14 (.pointer (some ⟨bx,1,none⟩)) hHeld ?_
       simp only[Act.put,Zp];refine OrdM.rest_ready (rs:=[15]) (by kernel_rfl) (by simp) ?_
       refine OrdM.Each.cons rfl (fun K hK=>?_) OrdM.Each.nil
       simp only[Zp];rw[if_pos (by rfl)]
       have g1:=Kwt5.out.cell c1;have gf:=(zab (Kwt5.out.block BX3.out)).2.2.2
       go_simp
       refine hK.out _ _ (fun e=>absurd rfl e) ?_
       clear hK K g1 gf;refine OrdM.rest_done (by kernel_rfl) ?_ _
       go_wp2_with fail;go_meet
       case rel=>exact⟨B5,d5,wt5,rfl,rfl,Kwt5.out,by show World.ownsRow _ _ _ _ _ _ _;rw[<- fin2.out];exact R5.out⟩
      ·simp only[Zp]
       rw[if_pos (by rfl)]
       go_simp
       obtain⟨wt6,hwt6⟩:=Zn (wt1.alloc (.cells #[.int .i64 x.k,.slice x.A x.n x.c] 56));have Jwt6:Hid (Keep wt1 wt6):=by rw[hwt6];exact Keep.one _ _
       have Kwt6:Hid (Keep w2 wt6):=Kwt1.out.trans Jwt6.out;have LL:Hid (wt0.heap.size<wt1.heap.size):=(Array.getElem?_eq_some_iff.1 F0.out).1;replace F0:Hid (wt6.heap[wt0.heap.size]?=some _):=Jwt6.out.block F0.out;have F7:Hid (wt6.heap[wt1.heap.size]?=some (.cells #[.int .i64 x.k,.slice x.A x.n x.c] 56 (0,0))):=by rw[hwt6];exact heap_alloc_new _ _
       rw[<- hwt6];replace hwt6:=Zq hwt6;refine hK.out _ _ (fun _=>HELD _ Kwt6.out) ?_
       have hHeld:=HELD _ Kwt6.out;clear hK K;try simp only[Act.put,Zp]
       refine OrdM.rest_ready (rs:=[5]) (by kernel_rfl) (by simp) ?_
       refine(OrdM.Each.cons rfl (fun K hK=>?_) OrdM.Each.nil)
       simp only[Zp];rw[if_pos (by rfl)]
       refine zcf rfl (.tmp 49) (.tmp 53) rfl w2.heap.size (.slice (some ⟨wt0.heap.size,0,none⟩) 0 0) 0 [] (by simp[Act.eval]) (zdh Kwt0.out.size F0.out) (.slice (some ⟨gn,off,none⟩) 0 c) (0) (zau P (0)) (by simp[Act.eval]) (zea CA.out (Nat.zero_le _) (K2.out.trans Kwt6.out)) (zbp _ _) (by omega) Kwt6.out.size _ (Nat.zero_add _) ?_
       intro v3 wt7 R hg3;have Kwt7:Hid (Keep w2 wt7):=zad Kwt6.out hg3 (fun q hq=>by simp[Value.ownBlock] at hq;have:=Kwt0.out.size;omega)
       simp only[List.nil_append] at R;replace R:=Zq R;replace F7:Hid (wt7.heap[wt1.heap.size]?=some _):=(hg3.block _ (Array.getElem?_eq_some_iff.1 F7.out).1 (by have:=LL.out;simp[Value.ownBlock];omega)).trans F7.out
       replace hg3:=Zq hg3;clear F0;refine hK.out _ _ (fun _=>HELD _ Kwt7.out) ?_
       have hHeld:=HELD _ Kwt7.out;clear hK K;try simp only[Act.put,Zp]
       refine OrdM.rest_ready (rs:=[8]) (by kernel_rfl) (by simp) ?_
       refine(OrdM.Each.cons rfl (fun K hK=>?_) OrdM.Each.nil)
       simp only[Zp];rw[if_pos (by rfl)]
       refine zcf rfl (.tmp 54) (.tmp 56) rfl w2.heap.size v3 (0) (zau P (0)) (by simp[Act.eval]) R.out (.slice (some ⟨wt1.heap.size,0,none⟩) 1 1) 1 x.cells (by simp[Act.eval]) (zbh F7.out) (cells_one _) (by omega) Kwt7.out.size _ rfl ?_
       intro v4 wt8 R4 hg4;have Kwt8:Hid (Keep w2 wt8):=zad Kwt7.out hg4 (fun q hq=>(R.out.lt q hq).1)
       clear R F7;replace R4:=Zq R4;replace hg4:=Zq hg4;refine hK.out _ _ (fun _=>HELD _ Kwt8.out) ?_
       have hHeld:=HELD _ Kwt8.out;clear hK K;try simp only[Act.put,Zp]
       refine OrdM.rest_ready (rs:=[13]) (by kernel_rfl) (by simp) ?_
       refine(OrdM.Each.cons rfl (fun K hK=>?_) OrdM.Each.nil)
       simp only[Zp];rw[if_pos (by rfl)]
       refine zcf rfl (.tmp 57) (.tmp 61) rfl w2.heap.size v4 (0+1) (zau P (0)++x.cells) (by simp[Act.eval]) R4.out (.slice (some ⟨gn,off,none⟩) N c) (N - (0)) (zau (fun t=>P ((0)+t)) (N - (0))) (by simp[Act.eval]) (zjx CA.out (K2.out.trans Kwt8.out)) (zbp _ _) (by omega) Kwt8.out.size (N+1) (by omega) ?_
       intro v5 wt9 R5 hg5;have Kwt9:Hid (Keep w2 wt9):=zad Kwt8.out hg5 (fun q hq=>(R4.out.lt q hq).1)
       obtain⟨B5,d5,hv5,_⟩:=zan R5;subst hv5;clear R4;replace R5:=Zq R5;replace hg5:=Zq hg5;refine hK.out _ _ (fun _=>HELD _ Kwt9.out) ?_
       have hHeld:=HELD _ Kwt9.out;clear hK K;try simp only[Act.put,Zp]
       refine OrdM.rt 14 (.pointer (some ⟨bx,1,none⟩)) hHeld ?_
       simp only[Act.put,Zp];refine OrdM.rest_ready (rs:=[15]) (by kernel_rfl) (by simp) ?_
       refine OrdM.Each.cons rfl (fun K hK=>?_) OrdM.Each.nil
       simp only[Zp];rw[if_pos (by rfl)]
       have g1:=Kwt9.out.cell c1;have gf:=(zab (Kwt9.out.block BX3.out)).2.2.2
       go_simp
       refine hK.out _ _ (fun e=>absurd rfl e) ?_
       clear hK K g1 gf;refine OrdM.rest_done (by kernel_rfl) ?_ _
       go_wp2_with fail;go_meet
       case rel=>exact⟨B5,d5,wt9,rfl,rfl,Kwt9.out,by show World.ownsRow _ _ _ _ _ _ _;rw[<- fin2.out];exact R5.out⟩
     ·simp only[Zp]
      rw[if_pos (by rfl)]
      go_simp
      obtain⟨wt10,hwt10⟩:=Zn (wt0.alloc (.cells #[.int .i64 x.k,.slice x.A x.n x.c] 56));have Jwt10:Hid (Keep wt0 wt10):=by rw[hwt10];exact Keep.one _ _
      have Kwt10:Hid (Keep w2 wt10):=Kwt0.out.trans Jwt10.out;have F7:Hid (wt10.heap[wt0.heap.size]?=some (.cells #[.int .i64 x.k,.slice x.A x.n x.c] 56 (0,0))):=by rw[hwt10];exact heap_alloc_new _ _
      rw[<- hwt10];replace hwt10:=Zq hwt10;refine hK.out _ _ (fun _=>HELD _ Kwt10.out) ?_
      have hHeld:=HELD _ Kwt10.out;clear hK K;try simp only[Act.put,Zp]
      refine OrdM.rest_ready (rs:=[0]) (by kernel_rfl) (by simp) ?_
      refine(OrdM.Each.cons rfl (fun K hK=>?_) OrdM.Each.nil)
      simp only[Zp];rw[if_pos (by rfl)]
      go_simp
      obtain⟨wt11,hwt11⟩:=Zn (wt10.alloc (.cells #[] 56));have Jwt11:Hid (Keep wt10 wt11):=by rw[hwt11];exact Keep.one _ _
      have Kwt11:Hid (Keep w2 wt11):=Kwt10.out.trans Jwt11.out;have LL:Hid (wt0.heap.size<wt10.heap.size):=(Array.getElem?_eq_some_iff.1 F7.out).1;replace F7:Hid (wt11.heap[wt0.heap.size]?=some _):=Jwt11.out.block F7.out;have F0:Hid (wt11.heap[wt10.heap.size]?=some (.cells #[] 56 (0,0))):=by rw[hwt11];exact heap_alloc_new _ _
      rw[<- hwt11];replace hwt11:=Zq hwt11;refine hK.out _ _ (fun _=>HELD _ Kwt11.out) ?_
      have hHeld:=HELD _ Kwt11.out;clear hK K;try simp only[Act.put,Zp]
      refine OrdM.rest_ready (rs:=[5]) (by kernel_rfl) (by simp) ?_
      refine(OrdM.Each.cons rfl (fun K hK=>?_) OrdM.Each.nil)
      simp only[Zp];rw[if_pos (by rfl)]
      refine zcf rfl (.tmp 49) (.tmp 53) rfl w2.heap.size (.slice (some ⟨wt10.heap.size,0,none⟩) 0 0) 0 [] (by simp[Act.eval]) (zdh Kwt10.out.size F0.out) (.slice (some ⟨gn,off,none⟩) 0 c) (0) (zau P (0)) (by simp[Act.eval]) (zea CA.out (Nat.zero_le _) (K2.out.trans Kwt11.out)) (zbp _ _) (by omega) Kwt11.out.size _ (Nat.zero_add _) ?_
      intro v3 wt12 R hg3;have Kwt12:Hid (Keep w2 wt12):=zad Kwt11.out hg3 (fun q hq=>by simp[Value.ownBlock] at hq;have:=Kwt10.out.size;omega)
      simp only[List.nil_append] at R;replace R:=Zq R;replace F7:Hid (wt12.heap[wt0.heap.size]?=some _):=(hg3.block _ (Array.getElem?_eq_some_iff.1 F7.out).1 (by have:=LL.out;simp[Value.ownBlock];omega)).trans F7.out
      replace hg3:=Zq hg3;clear F0;refine hK.out _ _ (fun _=>HELD _ Kwt12.out) ?_
      have hHeld:=HELD _ Kwt12.out;clear hK K;try simp only[Act.put,Zp]
      refine OrdM.rest_ready (rs:=[8]) (by kernel_rfl) (by simp) ?_
      refine(OrdM.Each.cons rfl (fun K hK=>?_) OrdM.Each.nil)
      simp only[Zp];rw[if_pos (by rfl)]
      refine zcf rfl (.tmp 54) (.tmp 56) rfl w2.heap.size v3 (0) (zau P (0)) (by simp[Act.eval]) R.out (.slice (some ⟨wt0.heap.size,0,none⟩) 1 1) 1 x.cells (by simp[Act.eval]) (zbh F7.out) (cells_one _) (by omega) Kwt12.out.size _ rfl ?_
      intro v4 wt13 R4 hg4;have Kwt13:Hid (Keep w2 wt13):=zad Kwt12.out hg4 (fun q hq=>(R.out.lt q hq).1)
      clear R F7;replace R4:=Zq R4;replace hg4:=Zq hg4;refine hK.out _ _ (fun _=>HELD _ Kwt13.out) ?_
      have hHeld:=HELD _ Kwt13.out;clear hK K;try simp only[Act.put,Zp]
      refine OrdM.rest_ready (rs:=[13]) (by kernel_rfl) (by simp) ?_
      refine(OrdM.Each.cons rfl (fun K hK=>?_) OrdM.Each.nil)
      simp only[Zp];rw[if_pos (by rfl)]
      refine zcf rfl (.tmp 57) (.tmp 61) rfl w2.heap.size v4 (0+1) (zau P (0)++x.cells) (by simp[Act.eval]) R4.out (.slice (some ⟨gn,off,none⟩) N c) (N - (0)) (zau (fun t=>P ((0)+t)) (N - (0))) (by simp[Act.eval]) (zjx CA.out (K2.out.trans Kwt13.out)) (zbp _ _) (by omega) Kwt13.out.size (N+1) (by omega) ?_
      intro v5 wt14 R5 hg5;have Kwt14:Hid (Keep w2 wt14):=zad Kwt13.out hg5 (fun q hq=>(R4.out.lt q hq).1)
      obtain⟨B5,d5,hv5,_⟩:=zan R5;subst hv5;clear R4;replace R5:=Zq R5;replace hg5:=Zq hg5;refine hK.out _ _ (fun _=>HELD _ Kwt14.out) ?_
      have hHeld:=HELD _ Kwt14.out;clear hK K;try simp only[Act.put,Zp]
      refine OrdM.rt 14 (.pointer (some ⟨bx,1,none⟩)) hHeld ?_
      simp only[Act.put,Zp];refine OrdM.rest_ready (rs:=[15]) (by kernel_rfl) (by simp) ?_
      refine OrdM.Each.cons rfl (fun K hK=>?_) OrdM.Each.nil
      simp only[Zp];rw[if_pos (by rfl)]
      have g1:=Kwt14.out.cell c1;have gf:=(zab (Kwt14.out.block BX3.out)).2.2.2
      go_simp
      refine hK.out _ _ (fun e=>absurd rfl e) ?_
      clear hK K g1 gf;refine OrdM.rest_done (by kernel_rfl) ?_ _
      go_wp2_with fail;go_meet
      case rel=>exact⟨B5,d5,wt14,rfl,rfl,Kwt14.out,by show World.ownsRow _ _ _ _ _ _ _;rw[<- fin2.out];exact R5.out⟩
    case rest =>
     obtain⟨B5,d5,w5,rfl,rfl,K5,RF⟩:=hcut;obtain⟨F1,F2,F3⟩:=fin3.out B5 d5 w5 K5.out RF.out;replace F1:=Zq F1;replace F2:=Zq F2;replace F3:=Zq F3;have hne:bx≠b:=by have:=hb.out;have:=hbx.out;omega
     obtain⟨z0,z1,z2,zf⟩:=zab (K5.out.block BZ3.out);obtain⟨g0,g1,g2,gf⟩:=zab (K5.out.block BX3.out);unfold zrc at z0 z1 z2;simp only at z0 z1 z2 g0 g1 g2;clear x0 x1 c1;go_wp2;obtain⟨e0,e1,e2,_⟩:=zab F1.out;simp only[zav] at *;refine bodyPost_ret (v:=.tuple #[.agg #[.int .i64 d,.slice B5 (N+1) d5,.slice B m e],.int .i64 0,.int .i64 0]) (by simp[results,Tryz.results27,go_sem,e0,e1,e2]) rfl ?_
     first
      | exact⟨B5,d5,N+1,_,rfl,F2.out,F3.out,fin4.out,fin5.out⟩
      | exact⟨B5,d5,N+1,rfl,F2.out,_,F3.out,fin4.out,fin5.out⟩
      | exact⟨B5,d5,N+1,_,rfl,F2.out,F3.out,fin4.out,fin5.out fun _ hj=>absurd hj (Nat.not_lt_zero _)⟩
      | exact⟨B5,d5,N+1,rfl,F2.out,_,F3.out,fin4.out,fin5.out fun _ hj=>absurd hj (Nat.not_lt_zero _)⟩
   ·obtain⟨jp,rfl⟩:∃ jp,j=jp+1:=⟨j - 1,by omega⟩
    have ej:IntKind.i64.wrap ((jp:Int)+1 - 1)=(jp:Int):=by rw[IntKind.wrap_i64];omega
    have ej2:(jp:Int)+1 - 1=(jp:Int):=by omega
    have hjd:decide ((0:Int)<(jp:Int)+1)=true:=decide_eq_true (by omega)
    have q2:=atN gn off N c jp (by omega)
    have Y:=(CA.out jp (by omega)).keep GQ.out.keep
    obtain⟨y,hy⟩:=Zn (P jp);have CM2:Hid (kd<y.k->∀ t,jp<=t->t<N->kd<(P t).k):=fun h t h1 h2=>by
     by_cases e:t=jp
     ·rw[e,<- hy];exact h
     ·exact CM.out t (by omega) h2
    have hyP:Hid (y=P jp):=hy;rw[<- hy] at Y;replace hy:=Zq hy;have v0:=GQ.out.keep.cell y0;have v1:=GQ.out.keep.cell c1;have t0:=Y.e0;clear Y c0 c1 c2' cf y0 z0 z1 z2 zf;obtain⟨yk,hyk⟩:=Zn (y.k);rw[<- hyk] at t0 CM2;replace hyk:=Zq hyk
    by_cases hlk:kd<yk
    ·have CM3:=Zq (CM2.out hlk)
     clear CM2;go_wp2_with fail
     go_quiet (fail)
     have G2:Hid (Gr w3 (wr.drewN nq)):=GQ.out.drewN nq;generalize wr.drewN nq=w2 at G2 ⊢;clear v0 v1 t0 q2 hjd;go_wp2;go_roundg jp
     case measure=>omega
     case rel=>exact⟨jp,by go_num,by omega,rfl,G2,CM3⟩
    ·clear CM2
     go_wp2_with fail
     go_quiet (fail)
     have G2:Hid (Gr w3 (wr.drewN nq)):=GQ.out.drewN nq;generalize wr.drewN nq=w2 at G2 ⊢;clear v0 v1 t0 q2 hjd;have hz0:(0:Int)<=(jp:Int)+1:=by omega
     have hz1:(jp:Int)+1<=(c:Int):=by omega
     have hz2:(jp:Int)+1<=(N:Int):=by omega
     obtain⟨hiA,hhi⟩:∃ v:Option Addr,v=if c=jp+1 then some ⟨gn,off,none⟩ else some ⟨gn,off+(jp+1) * 2,none⟩:=⟨_,rfl⟩
     have SH:Hid (∀ Wz,Keep w3 Wz->zdq Wz (.slice hiA (N - (jp+1)) (c - (jp+1))) (N - (jp+1)) (zau (fun t=>P ((jp+1)+t)) (N - (jp+1)))):=fun Wz KK=>by rw[hhi];exact zvj CA.out hji hLen KK
     replace hhi:=Zq hhi;have K2:Hid (Keep w3 w2):=G2.out.keep;obtain⟨x,hx⟩:∃ x:NdC,x=⟨kd,A2,n2,c2,Z⟩:=⟨_,rfl⟩;have ex:Hid (x.k=kd):=by rw[hx];exact rfl
     have B2:Hid (w2.heap[by']?=some (.cells #[.int .i64 x.k,.slice x.A x.n x.c] 56 (0,0))):=by rw[hx];exact K2.out.block BY3.out
     have fin2:Hid (zau P (jp+1)++x.cells++zau (fun t=>P ((jp+1)+t)) (N - (jp+1))=zau (row (zbc x (lst P N))) (N+1)):=ins_row (by omega) hsP.out (fun t h1 h2=>(zcs _ _).2 (by rw[ex.out];exact CM.out t (by omega) h2)) (Or.inr ((zpu _ _).2 (by rw[ex.out];show ¬kd<(P jp).k;rw[<- hyP.out,<- hyk.out];omega)))
     have okx:Hid (zxp x):=⟨by rw[ex.out];exact hki.out,trivial⟩
     have rx:Hid (Rd w x.A x.n x.C/\(x.A=none->x.n=0/\x.c=0)):=by rw[hx];exact rV.out
     have fin3:Hid (∀ (B5:Option Addr) (d5:Nat) (w5:World),Keep w2 w5->w5.ownsRow w2.heap.size 56 2 (.slice B5 (N+1) d5) (N+1) (zau (row (zbc x (lst P N))) (N+1))->_):=fun B5 d5 w5 k5 ho=>zpo (d:=d) (B:=B) (m:=m) (e:=e) (bx:=bx) (b:=b) h'.out (by have:=hbx.out;omega) (by have:=hb.out;omega) (by have:=hb.out;have:=hbx.out;omega) x okx.out rx.out.1 rx.out.2 (K2.out.trans k5) (KW.out.trans k3.out) (lt_of_block BX3.out) (lt_of_block BZ3.out) ((K2.out.trans k5).block BZ3.out) K2.out.size (by omega) ho
     have fin4:Hid ((lst (row (zbc x (lst P N))) (N+1)).map nv=adL M d kd n2 Z):=fin4'.out x hx;have fin5:Hid ((∀ j,j<N->(P j).n=d)->∀ j,j<N+1->(row (zbc x (lst P N)) j).n=d):=zzw (by rw[hx];exact hnd.out)
     have x0:w2.cell? ⟨by',0,none⟩=some (.int .i64 x.k):=by rw[cell_of_row w2 by' _ _ _ _ B2.out];rfl
     have x1:w2.cell? ⟨by',1,none⟩=some (.slice x.A x.n x.c):=by rw[cell_of_row w2 by' _ _ _ _ B2.out];rfl
     replace BX3:Hid (w2.heap[bx]?=_):=K2.out.block BX3.out;replace BZ3:Hid (w2.heap[b]?=_):=K2.out.block BZ3.out;obtain⟨c0,c1,c2',cf⟩:=zab BX3.out;simp only at c0 c1 c2';replace c0:=Zq c0;replace c2':=Zq c2';replace cf:=Zq cf;have hbl:=zbl x0;have hbl2:=zbl c1;have hxy:Hid (bx≠by'):=by have:=hbx.out;have:=hby.out;show bx≠by';omega
     replace hx:=Zq hx;go_upto_region 11 with fail
     go_cut [62] from 49 to 63 (fun s wx=>∃ (B5:Option Addr) (d5:Nat) (w5:World),s=.slice B5 (N+1) d5/\wx=w5.setCell ⟨bx,1,none⟩ (.slice B5 (N+1) d5)/\Hid (Keep w2 w5)/\Hid (w5.ownsRow w2.heap.size 56 2 (.slice B5 (N+1) d5) (N+1) (zau (row (zbc x (lst P N))) (N+1))))
     case first =>
      have HELD:∀ Wz,Keep w2 Wz->(Wz.cell? ⟨bx,1,none⟩=some (.slice (some ⟨gn,off,none⟩) N c)/\Wz.cell? ⟨by',0,none⟩=some (.int .i64 x.k)/\Wz.cell? ⟨by',1,none⟩=some (.slice x.A x.n x.c)):=fun Wz KK=>⟨KK.cell c1,KK.cell x0,KK.cell x1⟩
      refine OrdM.rest_start (fun w'=>w'.cell? ⟨bx,1,none⟩=some (.slice (some ⟨gn,off,none⟩) N c)/\w'.cell? ⟨by',0,none⟩=some (.int .i64 x.k)/\w'.cell? ⟨by',1,none⟩=some (.slice x.A x.n x.c)) 15 (by kernel_rfl) ?_ (fun hHeld=>?_)
      ·exact HELD _ (Keep.refl w2).drew
      obtain⟨wt0,hwt0⟩:=Zn (w2.drew);have Kwt0:Hid (Keep w2 wt0):=by rw[hwt0];exact(Keep.refl _).drew
      rw[<- hwt0] at hHeld ⊢;replace hwt0:=Zq hwt0;refine OrdM.rt 1 (.pointer (some ⟨bx,1,none⟩)) hHeld ?_
      simp only[Act.put,Zp];refine OrdM.rt 2 (.slice (some ⟨gn,off,none⟩) N c) hHeld ?_
      simp only[Act.put,Zp];refine OrdM.rt 3 (.int .i64 ((jp:Int)+1)) hHeld ?_
      simp only[Act.put,Zp];refine OrdM.rt 4 (.slice (some ⟨gn,off,none⟩) (jp+1) c) hHeld ?_
      simp only[Act.put,Zp];refine OrdM.rt 6 (.agg #[.int .i64 x.k,.slice x.A x.n x.c]) hHeld ?_
      simp only[Act.put,Zp];refine OrdM.rt 9 (.pointer (some ⟨bx,1,none⟩)) hHeld ?_
      simp only[Act.put,Zp];refine OrdM.rt 10 (.slice (some ⟨gn,off,none⟩) N c) hHeld ?_
      simp only[Act.put,Zp];refine OrdM.rt 11 (.int .i64 ((jp:Int)+1)) hHeld ?_
      simp only[Act.put,Zp];refine OrdM.rest_take (i:=12) (v:=.slice hiA (N - (jp+1)) (c - (jp+1))) rfl (by kernel_rfl) (by kernel_rfl) (by kernel_rfl) (by kernel_rfl) (by kernel_rfl) (fun _ _ _ h=>h) (Or.inl ⟨by rfl,fun Wz hW=>by obtain⟨s0,s1,s2⟩:=hW;rw[hhi.out];go_simp⟩) hHeld ?_
      simp only[Act.put,Zp];refine OrdM.rest_ready (rs:=[0,7]) (by kernel_rfl) (by simp) ?_
      refine(OrdM.Each.cons rfl (fun K hK=>?_) (OrdM.Each.cons rfl (fun K hK=>?_) OrdM.Each.nil))
      ·simp only[Zp]
       rw[if_pos (by rfl)]
       go_simp
       obtain⟨wt1,hwt1⟩:=Zn (wt0.alloc (.cells #[] 56));have Jwt1:Hid (Keep wt0 wt1):=by rw[hwt1];exact Keep.one _ _
       have Kwt1:Hid (Keep w2 wt1):=Kwt0.out.trans Jwt1.out;have F0:Hid (wt1.heap[wt0.heap.size]?=some (.cells #[] 56 (0,0))):=by rw[hwt1];exact heap_alloc_new _ _
       rw[<- hwt1];replace hwt1:=Zq hwt1;refine hK.out _ _ (fun _=>HELD _ Kwt1.out) ?_
       have hHeld:=HELD _ Kwt1.out;clear hK K;try simp only[Act.put,Zp]
       refine OrdM.rest_ready (rs:=[5,7]) (by kernel_rfl) (by simp) ?_
       refine(OrdM.Each.cons rfl (fun K hK=>?_) (OrdM.Each.cons rfl (fun K hK=>?_) OrdM.Each.nil))
       ·simp only[Zp]
        rw[if_pos (by rfl)]
        refine zcf rfl (.tmp 49) (.tmp 53) rfl w2.heap.size (.slice (some ⟨wt0.heap.size,0,none⟩) 0 0) 0 [] (by simp[Act.eval]) (zdh Kwt0.out.size F0.out) (.slice (some ⟨gn,off,none⟩) (jp+1) c) (jp+1) (zau P (jp+1)) (by simp[Act.eval]) (zea CA.out hji (K2.out.trans Kwt1.out)) (zbp _ _) (by omega) Kwt1.out.size _ (Nat.zero_add _) ?_
        intro v3 wt2 R hg3;have Kwt2:Hid (Keep w2 wt2):=zad Kwt1.out hg3 (fun q hq=>by simp[Value.ownBlock] at hq;have:=Kwt0.out.size;omega)
        simp only[List.nil_append] at R;replace R:=Zq R;replace hg3:=Zq hg3;clear F0;refine hK.out _ _ (fun _=>HELD _ Kwt2.out) ?_
        have hHeld:=HELD _ Kwt2.out;clear hK K;try simp only[Act.put,Zp]
        refine OrdM.rest_ready (rs:=[7]) (by kernel_rfl) (by simp) ?_
        refine(OrdM.Each.cons rfl (fun K hK=>?_) OrdM.Each.nil)
        simp only[Zp];rw[if_pos (by rfl)]
        go_simp
        obtain⟨wt3,hwt3⟩:=Zn (wt2.alloc (.cells #[.int .i64 x.k,.slice x.A x.n x.c] 56));have Jwt3:Hid (Keep wt2 wt3):=by rw[hwt3];exact Keep.one _ _
        have Kwt3:Hid (Keep w2 wt3):=Kwt2.out.trans Jwt3.out;replace R:Hid (World.ownsRow wt3 _ _ _ _ _ _):=zal R.out Jwt3.out;have F7:Hid (wt3.heap[wt2.heap.size]?=some (.cells #[.int .i64 x.k,.slice x.A x.n x.c] 56 (0,0))):=by rw[hwt3];exact heap_alloc_new _ _
        rw[<- hwt3];replace hwt3:=Zq hwt3;refine hK.out _ _ (fun _=>HELD _ Kwt3.out) ?_
        have hHeld:=HELD _ Kwt3.out;clear hK K;try simp only[Act.put,Zp]
        refine OrdM.rest_ready (rs:=[8]) (by kernel_rfl) (by simp) ?_
        refine(OrdM.Each.cons rfl (fun K hK=>?_) OrdM.Each.nil)
        simp only[Zp];rw[if_pos (by rfl)]
        refine zcf rfl (.tmp 54) (.tmp 56) rfl w2.heap.size v3 (jp+1) (zau P (jp+1)) (by simp[Act.eval]) R.out (.slice (some ⟨wt2.heap.size,0,none⟩) 1 1) 1 x.cells (by simp[Act.eval]) (zbh F7.out) (cells_one _) (by omega) Kwt3.out.size _ rfl ?_
        intro v4 wt4 R4 hg4;have Kwt4:Hid (Keep w2 wt4):=zad Kwt3.out hg4 (fun q hq=>(R.out.lt q hq).1)
        clear R F7;replace R4:=Zq R4;replace hg4:=Zq hg4;refine hK.out _ _ (fun _=>HELD _ Kwt4.out) ?_
        have hHeld:=HELD _ Kwt4.out;clear hK K;try simp only[Act.put,Zp]
        refine OrdM.rest_ready (rs:=[13]) (by kernel_rfl) (by simp) ?_
        refine(OrdM.Each.cons rfl (fun K hK=>?_) OrdM.Each.nil)
        simp only[Zp];rw[if_pos (by rfl)]
        refine zcf rfl (.tmp 57) (.tmp 61) rfl w2.heap.size v4 (jp+1+1) (zau P (jp+1)++x.cells) (by simp[Act.eval]) R4.out (.slice hiA (N - (jp+1)) (c - (jp+1))) (N - (jp+1)) (zau (fun t=>P ((jp+1)+t)) (N - (jp+1))) (by simp[Act.eval]) (SH.out _ (K2.out.trans Kwt4.out)) (zbp _ _) (by omega) Kwt4.out.size (N+1) (by omega) ?_
        intro v5 wt5 R5 hg5;have Kwt5:Hid (Keep w2 wt5):=zad Kwt4.out hg5 (fun q hq=>(R4.out.lt q hq).1)
        obtain⟨B5,d5,hv5,_⟩:=zan R5;subst hv5;clear R4;replace R5:=Zq R5;replace hg5:=Zq hg5;refine hK.out _ _ (fun _=>HELD _ Kwt5.out) ?_
        have hHeld:=HELD _ Kwt5.out;clear hK K;try simp only[Act.put,Zp]
        refine OrdM.rt 14 (.pointer (some ⟨bx,1,none⟩)) hHeld ?_
        simp only[Act.put,Zp];refine OrdM.rest_ready (rs:=[15]) (by kernel_rfl) (by simp) ?_
        refine OrdM.Each.cons rfl (fun K hK=>?_) OrdM.Each.nil
        simp only[Zp];rw[if_pos (by rfl)]
        have g1:=Kwt5.out.cell c1;have gf:=(zab (Kwt5.out.block BX3.out)).2.2.2
        go_simp
        refine hK.out _ _ (fun e=>absurd rfl e) ?_
        clear hK K g1 gf;refine OrdM.rest_done (by kernel_rfl) ?_ _
        go_wp2_with fail;go_meet
        case rel=>exact⟨B5,d5,wt5,rfl,rfl,Kwt5.out,by show World.ownsRow _ _ _ _ _ _ _;rw[<- fin2.out];exact R5.out⟩
       ·simp only[Zp]
        rw[if_pos (by rfl)]
        go_simp
        obtain⟨wt6,hwt6⟩:=Zn (wt1.alloc (.cells #[.int .i64 x.k,.slice x.A x.n x.c] 56));have Jwt6:Hid (Keep wt1 wt6):=by rw[hwt6];exact Keep.one _ _
        have Kwt6:Hid (Keep w2 wt6):=Kwt1.out.trans Jwt6.out;have LL:Hid (wt0.heap.size<wt1.heap.size):=(Array.getElem?_eq_some_iff.1 F0.out).1;replace F0:Hid (wt6.heap[wt0.heap.size]?=some _):=Jwt6.out.block F0.out;have F7:Hid (wt6.heap[wt1.heap.size]?=some (.cells #[.int .i64 x.k,.slice x.A x.n x.c] 56 (0,0))):=by rw[hwt6];exact heap_alloc_new _ _
        rw[<- hwt6];replace hwt6:=Zq hwt6;refine hK.out _ _ (fun _=>HELD _ Kwt6.out) ?_
        have hHeld:=HELD _ Kwt6.out;clear hK K;try simp only[Act.put,Zp]
        refine OrdM.rest_ready (rs:=[5]) (by kernel_rfl) (by simp) ?_
        refine(OrdM.Each.cons rfl (fun K hK=>?_) OrdM.Each.nil)
        simp only[Zp];rw[if_pos (by rfl)]
        refine zcf rfl (.tmp 49) (.tmp 53) rfl w2.heap.size (.slice (some ⟨wt0.heap.size,0,none⟩) 0 0) 0 [] (by simp[Act.eval]) (zdh Kwt0.out.size F0.out) (.slice (some ⟨gn,off,none⟩) (jp+1) c) (jp+1) (zau P (jp+1)) (by simp[Act.eval]) (zea CA.out hji (K2.out.trans Kwt6.out)) (zbp _ _) (by omega) Kwt6.out.size _ (Nat.zero_add _) ?_
        intro v3 wt7 R hg3;have Kwt7:Hid (Keep w2 wt7):=zad Kwt6.out hg3 (fun q hq=>by simp[Value.ownBlock] at hq;have:=Kwt0.out.size;omega)
        simp only[List.nil_append] at R;replace R:=Zq R;replace F7:Hid (wt7.heap[wt1.heap.size]?=some _):=(hg3.block _ (Array.getElem?_eq_some_iff.1 F7.out).1 (by have:=LL.out;simp[Value.ownBlock];omega)).trans F7.out
        replace hg3:=Zq hg3;clear F0;refine hK.out _ _ (fun _=>HELD _ Kwt7.out) ?_
        have hHeld:=HELD _ Kwt7.out;clear hK K;try simp only[Act.put,Zp]
        refine OrdM.rest_ready (rs:=[8]) (by kernel_rfl) (by simp) ?_
        refine(OrdM.Each.cons rfl (fun K hK=>?_) OrdM.Each.nil)
        simp only[Zp];rw[if_pos (by rfl)]
        refine zcf rfl (.tmp 54) (.tmp 56) rfl w2.heap.size v3 (jp+1) (zau P (jp+1)) (by simp[Act.eval]) R.out (.slice (some ⟨wt1.heap.size,0,none⟩) 1 1) 1 x.cells (by simp[Act.eval]) (zbh F7.out) (cells_one _) (by omega) Kwt7.out.size _ rfl ?_
        intro v4 wt8 R4 hg4;have Kwt8:Hid (Keep w2 wt8):=zad Kwt7.out hg4 (fun q hq=>(R.out.lt q hq).1)
        clear R F7;replace R4:=Zq R4;replace hg4:=Zq hg4;refine hK.out _ _ (fun _=>HELD _ Kwt8.out) ?_
        have hHeld:=HELD _ Kwt8.out;clear hK K;try simp only[Act.put,Zp]
        refine OrdM.rest_ready (rs:=[13]) (by kernel_rfl) (by simp) ?_
        refine(OrdM.Each.cons rfl (fun K hK=>?_) OrdM.Each.nil)
        simp only[Zp];rw[if_pos (by rfl)]
        refine zcf rfl (.tmp 57) (.tmp 61) rfl w2.heap.size v4 (jp+1+1) (zau P (jp+1)++x.cells) (by simp[Act.eval]) R4.out (.slice hiA (N - (jp+1)) (c - (jp+1))) (N - (jp+1)) (zau (fun t=>P ((jp+1)+t)) (N - (jp+1))) (by simp[Act.eval]) (SH.out _ (K2.out.trans Kwt8.out)) (zbp _ _) (by omega) Kwt8.out.size (N+1) (by omega) ?_
        intro v5 wt9 R5 hg5;have Kwt9:Hid (Keep w2 wt9):=zad Kwt8.out hg5 (fun q hq=>(R4.out.lt q hq).1)
        obtain⟨B5,d5,hv5,_⟩:=zan R5;subst hv5;clear R4;replace R5:=Zq R5;replace hg5:=Zq hg5;refine hK.out _ _ (fun _=>HELD _ Kwt9.out) ?_
        have hHeld:=HELD _ Kwt9.out;clear hK K;try simp only[Act.put,Zp]
        refine OrdM.rt 14 (.pointer (some ⟨bx,1,none⟩)) hHeld ?_
        simp only[Act.put,Zp];refine OrdM.rest_ready (rs:=[15]) (by kernel_rfl) (by simp) ?_
        refine OrdM.Each.cons rfl (fun K hK=>?_) OrdM.Each.nil
        simp only[Zp];rw[if_pos (by rfl)]
        have g1:=Kwt9.out.cell c1;have gf:=(zab (Kwt9.out.block BX3.out)).2.2.2
        go_simp
        refine hK.out _ _ (fun e=>absurd rfl e) ?_
        clear hK K g1 gf;refine OrdM.rest_done (by kernel_rfl) ?_ _
        go_wp2_with fail;go_meet
        case rel=>exact⟨B5,d5,wt9,rfl,rfl,Kwt9.out,by show World.ownsRow _ _ _ _ _ _ _;rw[<- fin2.out];exact R5.out⟩
      ·simp only[Zp]
       rw[if_pos (by rfl)]
       go_simp
       obtain⟨wt10,hwt10⟩:=Zn (wt0.alloc (.cells #[.int .i64 x.k,.slice x.A x.n x.c] 56));have Jwt10:Hid (Keep wt0 wt10):=by rw[hwt10];exact Keep.one _ _
       have Kwt10:Hid (Keep w2 wt10):=Kwt0.out.trans Jwt10.out;have F7:Hid (wt10.heap[wt0.heap.size]?=some (.cells #[.int .i64 x.k,.slice x.A x.n x.c] 56 (0,0))):=by rw[hwt10];exact heap_alloc_new _ _
       rw[<- hwt10];replace hwt10:=Zq hwt10;refine hK.out _ _ (fun _=>HELD _ Kwt10.out) ?_
       have hHeld:=HELD _ Kwt10.out;clear hK K;try simp only[Act.put,Zp]
       refine OrdM.rest_ready (rs:=[0]) (by kernel_rfl) (by simp) ?_
       refine(OrdM.Each.cons rfl (fun K hK=>?_) OrdM.Each.nil)
       simp only[Zp];rw[if_pos (by rfl)]
       go_simp
       obtain⟨wt11,hwt11⟩:=Zn (wt10.alloc (.cells #[] 56));have Jwt11:Hid (Keep wt10 wt11):=by rw[hwt11];exact Keep.one _ _
       have Kwt11:Hid (Keep w2 wt11):=Kwt10.out.trans Jwt11.out;have LL:Hid (wt0.heap.size<wt10.heap.size):=(Array.getElem?_eq_some_iff.1 F7.out).1;replace F7:Hid (wt11.heap[wt0.heap.size]?=some _):=Jwt11.out.block F7.out;have F0:Hid (wt11.heap[wt10.heap.size]?=some (.cells #[] 56 (0,0))):=by rw[hwt11];exact heap_alloc_new _ _
       rw[<- hwt11];replace hwt11:=Zq hwt11;refine hK.out _ _ (fun _=>HELD _ Kwt11.out) ?_
       have hHeld:=HELD _ Kwt11.out;clear hK K;try simp only[Act.put,Zp]
       refine OrdM.rest_ready (rs:=[5]) (by kernel_rfl) (by simp) ?_
       refine(OrdM.Each.cons rfl (fun K hK=>?_) OrdM.Each.nil)
       simp only[Zp];rw[if_pos (by rfl)]
       refine zcf rfl (.tmp 49) (.tmp 53) rfl w2.heap.size (.slice (some ⟨wt10.heap.size,0,none⟩) 0 0) 0 [] (by simp[Act.eval]) (zdh Kwt10.out.size F0.out) (.slice (some ⟨gn,off,none⟩) (jp+1) c) (jp+1) (zau P (jp+1)) (by simp[Act.eval]) (zea CA.out hji (K2.out.trans Kwt11.out)) (zbp _ _) (by omega) Kwt11.out.size _ (Nat.zero_add _) ?_
       intro v3 wt12 R hg3;have Kwt12:Hid (Keep w2 wt12):=zad Kwt11.out hg3 (fun q hq=>by simp[Value.ownBlock] at hq;have:=Kwt10.out.size;omega)
       simp only[List.nil_append] at R;replace R:=Zq R;replace F7:Hid (wt12.heap[wt0.heap.size]?=some _):=(hg3.block _ (Array.getElem?_eq_some_iff.1 F7.out).1 (by have:=LL.out;simp[Value.ownBlock];omega)).trans F7.out
       replace hg3:=Zq hg3;clear F0;refine hK.out _ _ (fun _=>HELD _ Kwt12.out) ?_
       have hHeld:=HELD _ Kwt12.out;clear hK K;try simp only[Act.put,Zp]
       refine OrdM.rest_ready (rs:=[8]) (by kernel_rfl) (by simp) ?_
       refine(OrdM.Each.cons rfl (fun K hK=>?_) OrdM.Each.nil)
       simp only[Zp];rw[if_pos (by rfl)]
       refine zcf rfl (.tmp 54) (.tmp 56) rfl w2.heap.size v3 (jp+1) (zau P (jp+1)) (by simp[Act.eval]) R.out (.slice (some ⟨wt0.heap.size,0,none⟩) 1 1) 1 x.cells (by simp[Act.eval]) (zbh F7.out) (cells_one _) (by omega) Kwt12.out.size _ rfl ?_
       intro v4 wt13 R4 hg4;have Kwt13:Hid (Keep w2 wt13):=zad Kwt12.out hg4 (fun q hq=>(R.out.lt q hq).1)
       clear R F7;replace R4:=Zq R4;replace hg4:=Zq hg4;refine hK.out _ _ (fun _=>HELD _ Kwt13.out) ?_
       have hHeld:=HELD _ Kwt13.out;clear hK K;try simp only[Act.put,Zp]
       refine OrdM.rest_ready (rs:=[13]) (by kernel_rfl) (by simp) ?_
       refine(OrdM.Each.cons rfl (fun K hK=>?_) OrdM.Each.nil)
       simp only[Zp];rw[if_pos (by rfl)]
       refine zcf rfl (.tmp 57) (.tmp 61) rfl w2.heap.size v4 (jp+1+1) (zau P (jp+1)++x.cells) (by simp[Act.eval]) R4.out (.slice hiA (N - (jp+1)) (c - (jp+1))) (N - (jp+1)) (zau (fun t=>P ((jp+1)+t)) (N - (jp+1))) (by simp[Act.eval]) (SH.out _ (K2.out.trans Kwt13.out)) (zbp _ _) (by omega) Kwt13.out.size (N+1) (by omega) ?_
       intro v5 wt14 R5 hg5;have Kwt14:Hid (Keep w2 wt14):=zad Kwt13.out hg5 (fun q hq=>(R4.out.lt q hq).1)
       obtain⟨B5,d5,hv5,_⟩:=zan R5;subst hv5;clear R4;replace R5:=Zq R5;replace hg5:=Zq hg5;refine hK.out _ _ (fun _=>HELD _ Kwt14.out) ?_
       have hHeld:=HELD _ Kwt14.out;clear hK K;try simp only[Act.put,Zp]
       refine OrdM.rt 14 (.pointer (some ⟨bx,1,none⟩)) hHeld ?_
       simp only[Act.put,Zp];refine OrdM.rest_ready (rs:=[15]) (by kernel_rfl) (by simp) ?_
       refine OrdM.Each.cons rfl (fun K hK=>?_) OrdM.Each.nil
       simp only[Zp];rw[if_pos (by rfl)]
       have g1:=Kwt14.out.cell c1;have gf:=(zab (Kwt14.out.block BX3.out)).2.2.2
       go_simp
       refine hK.out _ _ (fun e=>absurd rfl e) ?_
       clear hK K g1 gf;refine OrdM.rest_done (by kernel_rfl) ?_ _
       go_wp2_with fail;go_meet
       case rel=>exact⟨B5,d5,wt14,rfl,rfl,Kwt14.out,by show World.ownsRow _ _ _ _ _ _ _;rw[<- fin2.out];exact R5.out⟩
     case rest =>
      obtain⟨B5,d5,w5,rfl,rfl,K5,RF⟩:=hcut;obtain⟨F1,F2,F3⟩:=fin3.out B5 d5 w5 K5.out RF.out;replace F1:=Zq F1;replace F2:=Zq F2;replace F3:=Zq F3;have hne:bx≠b:=by have:=hb.out;have:=hbx.out;omega
      obtain⟨z0,z1,z2,zf⟩:=zab (K5.out.block BZ3.out);obtain⟨g0,g1,g2,gf⟩:=zab (K5.out.block BX3.out);unfold zrc at z0 z1 z2;simp only at z0 z1 z2 g0 g1 g2;clear x0 x1 c1;go_wp2;obtain⟨e0,e1,e2,_⟩:=zab F1.out;simp only[zav] at *;refine bodyPost_ret (v:=.tuple #[.agg #[.int .i64 d,.slice B5 (N+1) d5,.slice B m e],.int .i64 0,.int .i64 0]) (by simp[results,Tryz.results27,go_sem,e0,e1,e2]) rfl ?_
      first
       | exact⟨B5,d5,N+1,_,rfl,F2.out,F3.out,fin4.out,fin5.out⟩
       | exact⟨B5,d5,N+1,rfl,F2.out,_,F3.out,fin4.out,fin5.out⟩
       | exact⟨B5,d5,N+1,_,rfl,F2.out,F3.out,fin4.out,fin5.out fun _ hj=>absurd hj (Nat.not_lt_zero _)⟩
       | exact⟨B5,d5,N+1,rfl,F2.out,_,F3.out,fin4.out,fin5.out fun _ hj=>absurd hj (Nat.not_lt_zero _)⟩
end Go.Proofs.YtcogiogjpbkeaaaGreatDoor.C14
