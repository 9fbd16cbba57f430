/-
  The landed victims: Possible, Of, Minimal; they are what the laws ask for. Conditions: at most 100 nodes and pods, the dimension is at most 64.
-/
import Derived.Test.YtcogiogjpbkeaaaGreatDoorJ0
import Derived.Test.YtcogiogjpbkeaaaGreatDoorJ45
namespace Go.Proofs.YtcogiogjpbkeaaaGreatDoor.T18
open Go.RowKit Go.Sort Go.Lib V12 T13 T14 T15 T16 T17
set_option maxRecDepth 100000 in
set_option maxHeartbeats 16000000 in
theorem zpk{w1:World}(ca:Option Addr)(p:zaa)(nd:Int)(l:List zaa)(f:(Int->Bool)->Bool)(hl:l.length<=100)
  (cL:∀ W,Keep w1 W->Calls Tryz.prog 13 #[.pointer ca,p.val,.int .i64 nd] W fun e w'=>∃ v,e=.returned v/\zcu w' v l/\Keep W w')
  (cF:∀ W A n c O,Keep w1 W->zcq W A n O->n<=200->Calls Tryz.prog 24 #[.pointer ca,p.val,.int .i64 nd,.slice A n c] W fun e w'=>e=.returned (.bool (f O))/\Keep W w') :
  Calls Tryz.prog 15 #[.pointer ca,p.val,.int .i64 nd] w1 fun e w'=>e=.returned (.bool (f (zci (keys l))))/\Keep w1 w':=by
 have mixed:Tryz.prog.follows .mixedOrders=true:=by kernel_rfl
 obtain⟨W0,hW⟩:=Zn (w1.alloc (.cells (zac p) 26));have kW:Hid (Keep w1 W0):=by rw[hW];exact Keep.one _ _
 have bP:Hid (W0.heap[w1.heap.size]?=some (.cells (zac p) 26 (0,0))):=by rw[hW];exact heap_alloc_new _ _
 obtain⟨b,hb⟩:=Zn (w1.heap.size);rw[<- hb] at bP;replace cL:=Zq cL;replace cF:=Zq cF;unfold zac at hW;unfold zaa.val at cL cF;unfold zaa.val
 go_enter Tryz.func15,Tryz.ntmps15
 go_upto_region 1 with fail
 rw[<- hW,<- hb];replace hW:=Zq hW;replace hb:=Zq hb;have HELD:∀ Wz,Keep W0 Wz->(Wz.cell? ⟨b,0,none⟩=some (.int .i64 p.k)/\Wz.cell? ⟨b,1,none⟩=some (.int .i64 p.p)/\Wz.cell? ⟨b,2,none⟩=some (.bool p.f)/\Wz.cell? ⟨b,3,none⟩=some (.int .i64 p.g)/\Wz.cell? ⟨b,4,none⟩=some (.slice p.A p.m p.c)/\Wz.cell? ⟨b,5,none⟩=some (.int .i64 p.a)/\Wz.cell? ⟨b,6,none⟩=some (.int .i64 p.h)/\Wz.cell? ⟨b,7,none⟩=some (.int .i64 p.d)/\Wz.cell? ⟨b,8,none⟩=some (.int .i64 p.t)):=fun Wz KK=>⟨(zae (Keep.block KK bP.out)).e0,(zae (Keep.block KK bP.out)).e1,(zae (Keep.block KK bP.out)).e2,(zae (Keep.block KK bP.out)).e3,(zae (Keep.block KK bP.out)).e4,(zae (Keep.block KK bP.out)).e5,(zae (Keep.block KK bP.out)).e6,(zae (Keep.block KK bP.out)).e7,(zae (Keep.block KK bP.out)).e8⟩
 refine OrdS.rest_start (fun w'=>w'.cell? ⟨b,0,none⟩=some (.int .i64 p.k)/\w'.cell? ⟨b,1,none⟩=some (.int .i64 p.p)/\w'.cell? ⟨b,2,none⟩=some (.bool p.f)/\w'.cell? ⟨b,3,none⟩=some (.int .i64 p.g)/\w'.cell? ⟨b,4,none⟩=some (.slice p.A p.m p.c)/\w'.cell? ⟨b,5,none⟩=some (.int .i64 p.a)/\w'.cell? ⟨b,6,none⟩=some (.int .i64 p.h)/\w'.cell? ⟨b,7,none⟩=some (.int .i64 p.d)/\w'.cell? ⟨b,8,none⟩=some (.int .i64 p.t)) [] (by kernel_rfl) ?_ (fun hHeld=>?_)
 ·exact HELD _ (Keep.refl W0).drew
 obtain⟨wt0,hwt0⟩:=Zn (W0.drew);have Kwt0:Hid (Keep W0 wt0):=by rw[hwt0];exact(Keep.refl _).drew
 rw[<- hwt0] at hHeld ⊢;replace hwt0:=Zq hwt0;refine OrdS.rt 0 (.pointer ca) hHeld ?_
 simp only[Act.put,Zp];refine OrdS.rt 1 (.agg #[.int .i64 p.k,.int .i64 p.p,.bool p.f,.int .i64 p.g,.slice p.A p.m p.c,.int .i64 p.a,.int .i64 p.h,.int .i64 p.d,.int .i64 p.t]) hHeld ?_
 simp only[Act.put,Zp];refine OrdS.rt 2 (.int .i64 nd) hHeld ?_
 simp only[Act.put,Zp];refine OrdS.rt 3 (.pointer ca) hHeld ?_
 simp only[Act.put,Zp];refine OrdS.rt 4 (.agg #[.int .i64 p.k,.int .i64 p.p,.bool p.f,.int .i64 p.g,.slice p.A p.m p.c,.int .i64 p.a,.int .i64 p.h,.int .i64 p.d,.int .i64 p.t]) hHeld ?_
 simp only[Act.put,Zp];refine OrdS.rt 5 (.int .i64 nd) hHeld ?_
 simp only[Act.put,Zp];refine OrdS.rest_ready (rs:=[6]) (by kernel_rfl) (by simp) ?_
 refine OrdS.Each.cons rfl (fun K hK=>?_) OrdS.Each.nil
 simp only[Zp];rw[if_pos (by rfl)]
 go_simp
 refine(cL.out _ (kW.out.trans Kwt0.out)).mono ?_;rintro e' w6 ⟨v6,rfl,PO,k6⟩;have K6:Hid (Keep W0 w6):=Kwt0.out.trans k6;replace k6:=Zq k6;obtain⟨A6,c6,P6,rfl,R6,E6,N6⟩:=PO;replace R6:=Zq R6;replace E6:=Zq E6;replace N6:=Zq N6;go_wp2_with fail;refine hK.out _ _ (fun _=>HELD _ K6.out) ?_
 have hHeld:=HELD _ K6.out;clear hK K;try simp only[Act.put,Zp]
 refine OrdS.rest_ready (rs:=[7]) (by kernel_rfl) (by simp) ?_
 refine OrdS.Each.cons rfl (fun K hK=>?_) OrdS.Each.nil
 simp only[Zp];rw[if_pos (by rfl)]
 go_simp
 refine(zqy A6 l.length c6 P6 w6 R6.out (by omega)).mono ?_
 rintro e' w7 ⟨v,rfl,IA,k7⟩;have K7:Hid (Keep W0 w7):=K6.out.trans k7;replace k7:=Zq k7;have eK:keys (T13.lst P6 l.length)=keys l:=by rw[<- zbq,E6.out]
 rw[eK] at IA;replace eK:=Zq eK;have ST:=Zq (zmt IA);replace IA:=Zq IA;go_wp2_with fail;refine hK.out _ _ (fun _=>HELD _ K7.out) ?_
 have hHeld:=HELD _ K7.out;clear hK K;try simp only[Act.put,Zp]
 obtain⟨D7,d7,rfl,SU⟩:=ST.out;replace SU:=Zq SU;refine OrdS.rest_ready (rs:=[8]) (by kernel_rfl) (by simp) ?_
 refine OrdS.Each.cons rfl (fun K hK=>?_) OrdS.Each.nil
 simp only[Zp];rw[if_pos (by rfl)]
 go_simp
 refine(cF.out w7 D7 _ d7 _ (kW.out.trans K7.out) SU.out (by rw[zdf];omega)).mono ?_
 rintro e' w8 ⟨rfl,k8⟩;have K8:Hid (Keep W0 w8):=K7.out.trans k8;replace k8:=Zq k8;go_wp2_with fail;refine hK.out _ _ (fun _=>HELD _ K8.out) ?_
 have hHeld:=HELD _ K8.out;clear hK K;try simp only[Act.put,Zp]
 refine OrdS.rt 9 (.bool (f (zci (keys l)))) hHeld ?_
 simp only[Act.put,Zp];refine OrdS.rest_done (by kernel_rfl) ?_ _
 go_wp2;go_ret
 exact⟨rfl,kW.out.trans K8.out⟩
section
variable{CS:zbn}{w w1:World}{d q:Nat}{M:List NV}{L:List zaa}{X:Nat->Prop}
theorem aey(C:Con CS)(F:zqz CS)(h:CS w d q M L X w1)(hg:zbk w1)(p:zaa)(hp:zah w1 p)(nd:Int)(hd:I64 nd)(h64:d<=64)(pm:p.m<=1000)(hM:M.length<=100)(hl:L.length<=100):
  Calls Tryz.prog 15 #[.pointer (some ⟨q,0,none⟩),p.val,.int .i64 nd] w1 fun e w'=>e=.returned (.bool (zek p nd M L d))/\Keep w1 w' :=
 zpk _ p nd (zbr p nd L) (fun O=>zcc O p nd M L d) (Nat.le_trans (zia _ _ _) hl) (fun _ k=>zkz C (C.keep h k) p nd hd h64 hl)
  fun _ A n c O k hS hn=>F.fits p nd A n c O (C.keep h k) (hg.keep k) (hp.keep k) hd hS hn h64 pm hM hl
set_option maxRecDepth 100000 in
set_option maxHeartbeats 16000000 in
theorem alv(C:Con CS)(NW:zof CS)(F:zqz CS)(h:CS w d q M L X w1)(hg:zbk w1)(p:zaa)(hp:zah w1 p)(nd:Int)(hd:I64 nd)(h64:d<=64)(pm:p.m<=1000)(hM:M.length<=100)(hl:L.length<=100):
  Calls Tryz.prog 11 #[.pointer (some ⟨q,0,none⟩),p.val,.int .i64 nd] w1 fun e w'=>∃ v,e=.returned (.tuple #[v,.bool (zek p nd M L d)])/\zcu w' v (if zek p nd M L d=true then zct p nd M L d else[])/\Keep w1 w':=by
 have mixed:Tryz.prog.follows .mixedOrders=true:=by kernel_rfl
 have ok:=C.ok h;obtain⟨W0,hW⟩:=Zn (w1.alloc (.cells (zac p) 26));have kW:Hid (Keep w1 W0):=by rw[hW];exact Keep.one _ _
 have bP:Hid (W0.heap[w1.heap.size]?=some (.cells (zac p) 26 (0,0))):=by rw[hW];exact heap_alloc_new _ _
 obtain⟨b,hb⟩:=Zn (w1.heap.size);rw[<- hb] at bP;obtain⟨l,hll⟩:=Zn (zbr p nd L);obtain⟨f,hf⟩:=Zn (zek p nd M L d);have l100:l.length<=100:=by rw[hll];exact Nat.le_trans (zia _ _ _) hl
 have cL:Hid (∀ W',Keep w1 W'->Calls Tryz.prog 13 #[.pointer (some ⟨q,0,none⟩),p.val,.int .i64 nd] W' fun e w'=>∃ v,e=.returned v/\zcu w' v l/\Keep W' w'):=fun W' k=>by
  rw[hll];exact zkz C (C.keep h k) p nd hd h64 hl
 have cN:Hid (∀ W' A c P,Keep w1 W'->zai W' A l.length P->(T13.lst P l.length).map nm=l->(A=none->l.length=0/\c=0)->Calls Tryz.prog 33 #[.pointer (some ⟨q,0,none⟩),p.val,.int .i64 nd,.slice A l.length c] W' fun e w'=>∃ v,e=.returned (.tuple #[v,.bool f])/\zcu w' v (if f=true then zct p nd M L d else[])/\Keep W' w'):=fun W' A c P k hR hP nA=>by
  refine(zto C NW F (C.keep h k) (hg.keep k) p (hp.keep k) nd hd A l.length c P hR nA l100 h64 pm hM hl).mono ?_;rintro e w' ⟨h1,h2,k2⟩;have eK:keys (T13.lst P l.length)=keys l:=by rw[<- zbq,hP]
  have eO:zci (keys l)=zdx (zbr p nd L):=by rw[hll];rfl
  rw[eK,eO] at h1 h2;have ef:zcc (zdx (zbr p nd L)) p nd M L d=f:=hf.symm;rw[ef] at h1 h2;cases f with
  | false=>exact⟨_,h1 rfl,⟨none,0,fun _=>zaf,rfl,zai.nil _ _ _,rfl,fun _=>⟨rfl,rfl⟩⟩,k2⟩
  | true =>
    obtain⟨v,e1,e2⟩:=h2 rfl;refine⟨v,e1,?_,k2⟩;rw[if_pos rfl,<- ahg ok.lok.nod hf.symm,<- hll];rw[hP] at e2;rw[hll] at e2 ⊢;exact e2
 rw[<- hf];obtain⟨RV,hRV⟩:=Zn ((if f=true then zct p nd M L d else[]))
 rw[<- hRV] at cN ⊢;replace hRV:=Zq hRV;replace h:=Zq h;replace hg:=Zq hg;replace hp:=Zq hp;replace ok:=Zq ok;replace hll:=Zq hll;replace hf:=Zq hf;unfold zac at hW;unfold zaa.val at cL cN;unfold zaa.val
 go_enter Tryz.func11,Tryz.ntmps11
 go_upto_region 1 with fail
 rw[<- hW,<- hb];replace hW:=Zq hW;replace hb:=Zq hb;have HELD:∀ Wz,Keep W0 Wz->(Wz.cell? ⟨b,0,none⟩=some (.int .i64 p.k)/\Wz.cell? ⟨b,1,none⟩=some (.int .i64 p.p)/\Wz.cell? ⟨b,2,none⟩=some (.bool p.f)/\Wz.cell? ⟨b,3,none⟩=some (.int .i64 p.g)/\Wz.cell? ⟨b,4,none⟩=some (.slice p.A p.m p.c)/\Wz.cell? ⟨b,5,none⟩=some (.int .i64 p.a)/\Wz.cell? ⟨b,6,none⟩=some (.int .i64 p.h)/\Wz.cell? ⟨b,7,none⟩=some (.int .i64 p.d)/\Wz.cell? ⟨b,8,none⟩=some (.int .i64 p.t)):=fun Wz KK=>⟨(zae (Keep.block KK bP.out)).e0,(zae (Keep.block KK bP.out)).e1,(zae (Keep.block KK bP.out)).e2,(zae (Keep.block KK bP.out)).e3,(zae (Keep.block KK bP.out)).e4,(zae (Keep.block KK bP.out)).e5,(zae (Keep.block KK bP.out)).e6,(zae (Keep.block KK bP.out)).e7,(zae (Keep.block KK bP.out)).e8⟩
 refine OrdS.rest_start (fun w'=>w'.cell? ⟨b,0,none⟩=some (.int .i64 p.k)/\w'.cell? ⟨b,1,none⟩=some (.int .i64 p.p)/\w'.cell? ⟨b,2,none⟩=some (.bool p.f)/\w'.cell? ⟨b,3,none⟩=some (.int .i64 p.g)/\w'.cell? ⟨b,4,none⟩=some (.slice p.A p.m p.c)/\w'.cell? ⟨b,5,none⟩=some (.int .i64 p.a)/\w'.cell? ⟨b,6,none⟩=some (.int .i64 p.h)/\w'.cell? ⟨b,7,none⟩=some (.int .i64 p.d)/\w'.cell? ⟨b,8,none⟩=some (.int .i64 p.t)) [] (by kernel_rfl) ?_ (fun hHeld=>?_)
 ·exact HELD _ (Keep.refl W0).drew
 obtain⟨wt0,hwt0⟩:=Zn (W0.drew);have Kwt0:Hid (Keep W0 wt0):=by rw[hwt0];exact(Keep.refl _).drew
 rw[<- hwt0] at hHeld ⊢;replace hwt0:=Zq hwt0;refine OrdS.rt 0 (.pointer (some ⟨q,0,none⟩)) hHeld ?_
 simp only[Act.put,Zp];refine OrdS.rt 1 (.agg #[.int .i64 p.k,.int .i64 p.p,.bool p.f,.int .i64 p.g,.slice p.A p.m p.c,.int .i64 p.a,.int .i64 p.h,.int .i64 p.d,.int .i64 p.t]) hHeld ?_
 simp only[Act.put,Zp];refine OrdS.rt 2 (.int .i64 nd) hHeld ?_
 simp only[Act.put,Zp];refine OrdS.rt 3 (.pointer (some ⟨q,0,none⟩)) hHeld ?_
 simp only[Act.put,Zp];refine OrdS.rt 4 (.agg #[.int .i64 p.k,.int .i64 p.p,.bool p.f,.int .i64 p.g,.slice p.A p.m p.c,.int .i64 p.a,.int .i64 p.h,.int .i64 p.d,.int .i64 p.t]) hHeld ?_
 simp only[Act.put,Zp];refine OrdS.rt 5 (.int .i64 nd) hHeld ?_
 simp only[Act.put,Zp];refine OrdS.rest_ready (rs:=[6]) (by kernel_rfl) (by simp) ?_
 refine OrdS.Each.cons rfl (fun K hK=>?_) OrdS.Each.nil
 simp only[Zp];rw[if_pos (by rfl)]
 go_simp
 refine(cL.out _ (kW.out.trans Kwt0.out)).mono ?_;rintro e' w6 ⟨v6,rfl,PO,k6⟩;have K6:Hid (Keep W0 w6):=Kwt0.out.trans k6;replace k6:=Zq k6;obtain⟨A6,c6,P6,rfl,R6,E6,N6⟩:=PO;replace R6:=Zq R6;replace E6:=Zq E6;replace N6:=Zq N6;go_wp2_with fail;refine hK.out _ _ (fun _=>HELD _ K6.out) ?_
 have hHeld:=HELD _ K6.out;clear hK K;try simp only[Act.put,Zp]
 refine OrdS.rest_ready (rs:=[7]) (by kernel_rfl) (by simp) ?_
 refine OrdS.Each.cons rfl (fun K hK=>?_) OrdS.Each.nil
 simp only[Zp];rw[if_pos (by rfl)]
 go_simp
 refine(cN.out w6 A6 c6 P6 (kW.out.trans K6.out) R6.out E6.out N6.out).mono ?_;rintro e' w7 ⟨v7,rfl,PO,k7⟩;have K7:Hid (Keep W0 w7):=K6.out.trans k7;replace k7:=Zq k7;replace PO:=Zq PO;go_wp2_with fail;refine hK.out _ _ (fun _=>HELD _ K7.out) ?_
 have hHeld:=HELD _ K7.out;clear hK K;try simp only[Act.put,Zp]
 refine OrdS.rt 8 (v7) hHeld ?_
 simp only[Act.put,Zp];refine OrdS.rt 9 (.bool f) hHeld ?_
 simp only[Act.put,Zp];refine OrdS.rt 10 (v7) hHeld ?_
 simp only[Act.put,Zp];refine OrdS.rt 11 (.bool f) hHeld ?_
 simp only[Act.put,Zp];refine OrdS.rest_done (by kernel_rfl) ?_ _
 go_wp2;go_ret2
 exact⟨v7,rfl,PO.out,kW.out.trans K7.out⟩
set_option maxRecDepth 100000 in
set_option maxHeartbeats 16000000 in
theorem aiw(C:Con CS)(NW:zof CS)(F:zqz CS)(h:CS w d q M L X w1)(hg:zbk w1)(p:zaa)(hp:zah w1 p)(nd:Int)(hd:I64 nd)(A:Option Addr)(n c:Nat)(P:Nat->zaa)(hR:zai w1 A n P)(nilA:A=none->n=0/\c=0)(hn:n<=100)(h64:d<=64)(pm:p.m<=1000)(hM:M.length<=100)(hl:L.length<=100):
  Calls Tryz.prog 20 #[.pointer (some ⟨q,0,none⟩),p.val,.int .i64 nd,.slice A n c] w1 fun e w'=>e=.returned (.bool (zgn (zdn p nd M L d) (keys (T13.lst P n))))/\Keep w1 w':=by
 have ok:=C.ok h;obtain⟨W0,hW⟩:=Zn (w1.alloc (.cells (zac p) 26));have kW:Hid (Keep w1 W0):=by rw[hW];exact Keep.one _ _
 have bP:Hid (W0.heap[w1.heap.size]?=some (.cells (zac p) 26 (0,0))):=by rw[hW];exact heap_alloc_new _ _
 obtain⟨b,hb⟩:=Zn (w1.heap.size);rw[<- hb] at bP;obtain⟨r,hr⟩:=Zn (zgn (zdn p nd M L d) (keys (T13.lst P n)));obtain⟨f,hf⟩:=Zn (zcc (zci (keys (T13.lst P n))) p nd M L d);have hf2:zdn p nd M L d (zci (keys (T13.lst P n)))=f:=hf.symm;have cN:Hid (Calls Tryz.prog 33 #[.pointer (some ⟨q,0,none⟩),p.val,.int .i64 nd,.slice A n c] W0 fun e w'=>∃ (B:Option Addr) (m cb:Nat),e=.returned (.tuple #[.slice B m cb,.bool f])/\m<=100/\(f&&decide (m=n))=r/\Keep W0 w'):=by
  refine(zto C NW F (C.keep h kW.out) (hg.keep kW.out) p (hp.keep kW.out) nd hd A n c P (hR.keep kW.out) nilA hn h64 pm hM hl).mono ?_;rintro e w' ⟨h1,h2,k2⟩;rw[<- hf] at h1 h2;cases f with
  | false=>exact⟨none,0,0,h1 rfl,by omega,by rw[hr,abg hf2];rfl,k2⟩
  | true =>
    obtain⟨v,e1,B,cb,Q,rfl,_⟩:=h2 rfl;have eK:keys ((T13.lst P n).map nm)=keys (T13.lst P n):=zbq _;have eL:((T13.lst P n).map nm).length=n:=by rw[List.length_map,T13.lst_len]
    have nl:=zgo d ((T13.lst P n).map nm) (zfh nd L) (zhl p nd M L (zci (keys (T13.lst P n)))) [];rw[eL,List.length_nil] at nl;refine⟨B,_,cb,e1,by omega,?_,k2⟩
    have nm1:=abh (p:=p) (nd:=nd) (M:=M) (d:=d) ok.lok.nod (l:=(T13.lst P n).map nm) (by rw[eK];exact hf2)
    rw[eK,eL] at nm1;rw[hr,<- nm1,Bool.true_and]
 rw[<- hr];replace h:=Zq h;replace hg:=Zq hg;replace hp:=Zq hp;replace hR:=Zq hR;replace nilA:=Zq nilA;replace ok:=Zq ok;replace hr:=Zq hr;replace hf:=Zq hf;replace hf2:=Zq hf2;have P0:=zae bP.out;have c0:=P0.e0;have c1:=P0.e1;have c2:=P0.e2;have c3:=P0.e3;have c4:=P0.e4;have c5:=P0.e5;have c6:=P0.e6;have c7:=P0.e7;have c8:=P0.e8;clear P0;unfold zac at hW c0 c1 c2 c3 c4 c5 c6 c7 c8;unfold zaa.val at cN;unfold zaa.val;rw[hW,hb] at c0 c1 c2 c3 c4 c5 c6 c7 c8
 go_enter Tryz.func20,Tryz.ntmps20
 go_wp2_with fail;rw[<- hW];replace hW:=Zq hW;replace hb:=Zq hb;clear c0 c1 c2 c3 c4 c5 c6 c7 c8;refine cN.out.mono ?_;rintro e w2 ⟨B,m,cb,rfl,hm,er,k2⟩;have K2:Hid (Keep w1 w2):=kW.out.trans k2;clear k2 cN;cases f with
 | false =>
   have e1:Hid (r=false):=er.symm;clear er;go_wp2;go_ret
   exact⟨by rw[e1.out];rfl,K2.out⟩
 | true =>
   by_cases e:m=n
   ·have b1:((m:Int)== (n:Int))=true:=by simp[e]
    have e1:Hid (r=true):=by rw[<- er,decide_eq_true e];rfl
    clear er;replace e:=Zq e;go_wp2;go_ret
    exact⟨by rw[e1.out];rfl,K2.out⟩
   ·have b1:((m:Int)== (n:Int))=false:=by simp;omega
    have e1:Hid (r=false):=by rw[<- er,decide_eq_false e];rfl
    clear er;replace e:=Zq e;go_wp2;go_ret
    exact⟨by rw[e1.out];rfl,K2.out⟩
end
theorem zox(nd:Int)(w:World):Calls Tryz.prog 73 #[.pointer none,.int .i64 nd] w fun e w'=>e=.returned (.slice none 0 0)/\Keep w w':=by
 obtain⟨W,hW⟩:=Zn (w.alloc (.cells #[.int .i64 nd] 3));have kW:Hid (Keep w W):=by rw[hW];exact Keep.one _ _
 have hL:=Zq (zsf 111 #[.pointer (some ⟨w.heap.size,0,none⟩)] W);have h1:=@hmf
 go_enter Tryz.func73,Tryz.ntmps73
 go_wp2_with fail;rw[<- hW];replace hW:=Zq hW;refine hL.out.mono ?_;rintro e w1 ⟨rfl,k⟩;have k:=Zq k;go_wp2;go_ret
 exact⟨rfl,kW.out.trans k.out⟩
theorem aaf(nd:Int)(w:World):Calls Tryz.prog 36 #[.pointer none,.int .i64 nd] w fun e w'=>e=.returned (.slice none 0 0)/\Keep w w':=by
 have hB:=Zq (zrg w);have hP:=Zq (fun W=>zox nd W)
 have fs0:∀ W,(Instr.field 96 (.agg #[.pointer none,.pointer none]) 0).run Tryz.prog W=.ok (.agg #[.pointer none]) W:=fun _=>by kernel_rfl
 have fs1:∀ W,(Instr.field 96 (.agg #[.pointer none,.pointer none]) 1).run Tryz.prog W=.ok (.agg #[.pointer none]) W:=fun _=>by kernel_rfl
 have fn0:∀ W,(Instr.field 90 (.agg #[.pointer none]) 0).run Tryz.prog W=.ok (.pointer none) W:=fun _=>by kernel_rfl
 have fp0:∀ W,(Instr.field 94 (.agg #[.pointer none]) 0).run Tryz.prog W=.ok (.pointer none) W:=fun _=>by kernel_rfl
 go_enter Tryz.func36,Tryz.ntmps36
 go_wp2_with fail;refine hB.out.mono ?_;rintro e w2 ⟨rfl,k2⟩;replace k2:=Zq k2;go_wp2_with fail;refine(hP.out w2).mono ?_;rintro e w3 ⟨rfl,k3⟩;replace k3:=Zq k3;go_wp2;go_ret
 exact⟨rfl,k2.out.trans k3.out⟩
theorem abn(nd:Int)(w1:World):amd none nd [] w1:=fun W _=>(aaf nd W).mono fun _ _ ⟨h1,h2⟩=>⟨_,fun _=>zaf,h1,zas.nil _ _ _,rfl,h2⟩
theorem afs{CS:zbn}(C:Con CS)(NW:zof CS)(F:zqz CS):zoa CS where
 lower:=fun p nd h _ _ hd h64 _ hl _=>zkz C h p nd hd h64 hl
 ids:=fun A n c P hR _ hn=>zqy A n c P _ hR hn
 possible:=fun p nd h hg hp hd h64 pm hM hl _=>aey C F h hg p hp nd hd h64 pm hM hl
 of:=fun p nd h hg hp hd h64 pm hM hl _=>alv C NW F h hg p hp nd hd h64 pm hM hl
 minimal:=fun p nd A n c P h hg hp hd h64 pm hM hl hR nilA hn=>aiw C NW F h hg p hp nd hd A n c P hR nilA hn h64 pm hM hl
 none:=fun p nd w1 _ _=>(zpk (w1:=w1) none p nd (zbr p nd []) (fun _=>false) (Nat.zero_le _) (fun W _=>znx none p nd List.nodup_nil (fun _ h=>absurd h List.not_mem_nil) (Nat.zero_le _) (abn nd W)) fun W A n c _ _ _ _=>F.none p nd A n c W)
theorem conv18:zoa CSd:=afs con14 ahi (conl16 con14)
end Go.Proofs.YtcogiogjpbkeaaaGreatDoor.T18
