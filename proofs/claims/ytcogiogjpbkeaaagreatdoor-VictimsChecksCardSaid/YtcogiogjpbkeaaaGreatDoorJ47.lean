/-
  The law's awake, over the contracts of package victims. Condition: errors.errorType holds its own.
-/
import Derived.Test.YtcogiogjpbkeaaaGreatDoorJ0
import Derived.Test.YtcogiogjpbkeaaaGreatDoorJ40
namespace Go.Proofs.YtcogiogjpbkeaaaGreatDoor.T18
open Go.RowKit Go.Sort Go.Lib V12 T13 T14 T15 T16 T17
def zhf:List NV:=[⟨7,zn 10⟩]
def zed:Nat->List zaa
 | 0=>[]
 | 1=>[lc 1 1 3 0 3 7]
 | 2=>[lc 1 1 3 0 3 7,lc 2 1 4 1 3 7]
 | _=>[lc 1 1 3 0 3 7,lc 2 1 4 1 3 7,lc 3 1 3 2 3 7]
def ami:Nat->Int
 | 0=>1
 | 1=>2
 | 2=>3
 | _=>4
theorem aaa(A:Option Addr)(c:Nat):zek (lq 9 5 4 A c) 7 zhf (zed 3) 1=true:=by rfl
theorem ajo(A:Option Addr)(c:Nat):zek (lq 9 5 4 A c) 8 zhf (zed 3) 1=false:=by rfl
theorem ajp(A:Option Addr)(c:Nat):zct (lq 9 5 4 A c) 7 zhf (zed 3) 1=[lc 2 1 4 1 3 7]:=by rfl
theorem ajn(A:Option Addr)(c:Nat):zbr (lq 9 5 4 A c) 7 (zed 3)=zed 3:=by rfl
theorem zzz(A:Option Addr)(c:Nat):zgn (zdn (lq 9 5 4 A c) 7 zhf (zed 3) 1) [2]=true:=by rfl
theorem zzy(A:Option Addr)(c:Nat):zgn (zdn (lq 9 5 4 A c) 7 zhf (zed 3) 1) [1,2,3]=false:=by rfl
theorem zpr:PrB (zed 3):=by
 intro y hy;simp only[zed,List.mem_cons,List.not_mem_nil,or_false] at hy;rcases hy with rfl | rfl | rfl<;>exact⟨by show(-1073741824:Int)<=1;omega,by show(1:Int)<=1073741824;omega⟩
theorem zwi{w:World}{b:Nat}{z:Int}{T:TypeId}(h:w.heap[b]?=some (.cells #[.int .i64 z] T (0,0)))(hz:I64 z):zbv w (.slice (some ⟨b,0,none⟩) 1 1) [z]:=
 ⟨some ⟨b,0,none⟩,1,rfl,⟨by show(1:Nat)<=_;omega,fun j hj=>(by obtain rfl:j=0:=Nat.lt_one_iff.1 hj;exact hz),fun _=>⟨b,0,rfl,fun j hj=>by
  obtain rfl:j=0:=Nat.lt_one_iff.1 hj;rw[Nat.zero_add,cell_of_row w b 0 _ _ _ h]
  rfl⟩⟩,(fun e=>by cases e),Nat.le_refl _⟩
section
variable{CS:zbn}{w w1:World}{d q:Nat}{M:List NV}{L:List zaa}{X:Nat->Prop}
theorem aje(F:zoa CS)(p:zaa)(nd:Int)(h:CS w d q M L X w1)(hg:zbk w1)(hp:zah w1 p)(hn:I64 nd)(hd:d<=64)(hpm:p.m<=1000)(hm:M.length<=100)(hl:L.length<=100)(hb:PrB L){b:Bool}{l:List zaa}{n:Nat}(e:zek p nd M L d=b)(e2:(if b=true then zct p nd M L d else[])=l)(e3:l.length=n):
  Calls Tryz.prog 11 #[.pointer (some ⟨q,0,none⟩),p.val,.int .i64 nd] w1 fun e w'=>∃ A c P,e=.returned (.tuple #[.slice A n c,.bool b])/\zai w' A n P/\keys (T13.lst P n)=keys l/\(A=none->n=0/\c=0)/\Keep w1 w':=by
 refine(F.of p nd h hg hp hn hd hpm hm hl hb).mono ?_;rintro e' w' ⟨v,he,⟨A,c,P,e4,h1,h2,h3⟩,k⟩;rw[e] at he e4 h1 h2 h3;rw[e2,e3] at e4 h1 h2;rw[e2,e3] at h3;subst e4;exact⟨A,c,P,he,h1,by rw[<- zbq,h2],h3,k⟩
theorem abb(F:zoa CS)(p:zaa)(nd:Int)(h:CS w d q M L X w1)(hg:zbk w1)(hp:zah w1 p)(hn:I64 nd)(hd:d<=64)(hm:M.length<=100)(hl:L.length<=100)(hb:PrB L){l:List zaa}{n:Nat}(e2:zbr p nd L=l)(e3:l.length=n):
  Calls Tryz.prog 13 #[.pointer (some ⟨q,0,none⟩),p.val,.int .i64 nd] w1 fun e w'=>∃ A c P,e=.returned (.slice A n c)/\zai w' A n P/\keys (T13.lst P n)=keys l/\(A=none->n=0/\c=0)/\Keep w1 w':=by
 refine(F.lower p nd h hg hp hn hd hm hl hb).mono ?_;rintro e' w' ⟨v,he,⟨A,c,P,e4,h1,h2,h3⟩,k⟩;rw[e2,e3] at e4 h1 h2;rw[e2,e3] at h3;subst e4;exact⟨A,c,P,he,h1,by rw[<- zbq,h2],h3,k⟩
end
set_option maxRecDepth 100000 in
set_option maxHeartbeats 16000000 in
theorem awake18_true{CS:zbn}(C:Con CS)(N:zhj CS)(F:zoa CS):zkf:=by
 intro W0 hg;have mixed:Tryz.prog.follows .mixedOrders=true:=by kernel_rfl
 have hg0:=Zq hg;replace hg:=Zq hg;have KW0:Hid (Keep W0 W0):=Keep.refl _;have cN:Hid (Calls Tryz.prog 26 #[.int .i64 1] W0 fun e w'=>∃ q,e=.returned (.pointer (some ⟨q,0,none⟩))/\CS W0 1 q [] [] (fun _=>False) w'/\Keep W0 w'):=N 1 W0 W0 _ (Keep.refl _) (fun _ h=>h.elim) (by omega)
 go_enter Tryz.func9,Tryz.ntmps9
 go_wp2_with fail;refine cN.out.mono ?_;rintro e w1 ⟨q,rfl,o1,_⟩;replace o1:=Zq o1;have Kw1:Hid (Keep W0 w1):=C.kp o1.out;clear cN;obtain⟨ba,hba⟩:=Zn (w1.heap.size);obtain⟨Wa,hWa⟩:=Zn (w1.alloc (.cells #[.int .i64 10] 2));have ka:Hid (Keep w1 Wa):=by rw[hWa];exact Keep.one _ _
 have Ba:Hid (Wa.heap[ba]?=some (.cells #[.int .i64 10] 2 (0,0))):=by show _=_;rw[hWa,hba];exact heap_alloc_new _ _
 have cc:=Zq (afj C (C.keep o1.out ka.out) hg0.out Ba.out (k:=7) (z:=10) (by unfold I64;omega) (by omega) (by decide) (by decide))
 go_wp2_with fail;rw[<- hWa,<- hba];replace hWa:=Zq hWa;replace hba:=Zq hba;refine cc.out.mono ?_;rintro e w2 ⟨rfl,o2⟩;clear cc;replace o2:Hid (CS W0 1 q zhf (zed 0) (fun _=>False) w2):=o2
 go_wp2
 go_loopg [2] 3 (fun gx s2 wr=>∃ j:Nat,j<=3/\gx=3 - j/\s2=.int .i64 (ami j)/\Hid (CS W0 1 q zhf (zed j) (fun _=>False) wr))
 case atStart=>exact⟨0,Nat.zero_le _,rfl,rfl,o2⟩
 case round =>
  obtain⟨j,hj,rfl,hs,ST⟩:=hrel;obtain rfl | rfl | rfl | rfl:j=0\/j=1\/j=2\/j=3:=by omega
  ·have hs:_=Value.int .i64 1:=hs
   subst hs;obtain⟨bs,hbs⟩:=Zn (wr.heap.size+1);obtain⟨Ws,hWs⟩:=Zn ((wr.alloc (.cells #[.int .i64 3,.int .i64 4,.int .i64 3] 2)).alloc (.cells #[.int .i64 3] 2));have ks:Hid (Keep wr Ws):=by rw[hWs];exact(Keep.one _ _).alloc _
   have Bs:Hid (Ws.heap[bs]?=some (.cells #[.int .i64 3] 2 (0,0))):=by
    show _=_
    have h:=heap_alloc_new (wr.alloc (.cells #[.int .i64 3,.int .i64 4,.int .i64 3] 2)) (.cells #[.int .i64 3] 2);rw[World.size_alloc] at h;rw[hWs,hbs];exact h
   have cc:=Zq (ztt C (C.keep ST.out ks.out) hg0.out Bs.out (k:=1) (p:=1) (z:=3) (by unfold I64;omega) (by unfold I64;omega) (by omega) (by decide) (by decide))
   go_wp2_with fail;rw[<- hWs,<- hbs];replace hWs:=Zq hWs;replace hbs:=Zq hbs;refine cc.out.mono ?_;rintro e w3 ⟨r,rfl,o3⟩;replace o3:=Zq o3;clear cc;have cc:=Zq (zps C o3.out hg0.out 1 7 (by unfold I64;omega) (by unfold I64;omega) (by decide) (by decide) (by decide +kernel) (L2:=zed 1) rfl)
   go_wp2_with fail;refine cc.out.mono ?_;rintro e w4 ⟨r2,rfl,o4⟩;replace o4:Hid (CS W0 1 q zhf (zed 1) (fun _=>False) w4):=o4
   clear cc;go_wp2;go_roundg (3 - 1)
   case measure=>omega
   case rel=>exact⟨1,by omega,rfl,rfl,o4⟩
  ·have hs:_=Value.int .i64 2:=hs
   subst hs;obtain⟨bs,hbs⟩:=Zn (wr.heap.size+1);obtain⟨Ws,hWs⟩:=Zn ((wr.alloc (.cells #[.int .i64 3,.int .i64 4,.int .i64 3] 2)).alloc (.cells #[.int .i64 4] 2));have ks:Hid (Keep wr Ws):=by rw[hWs];exact(Keep.one _ _).alloc _
   have Bs:Hid (Ws.heap[bs]?=some (.cells #[.int .i64 4] 2 (0,0))):=by
    show _=_
    have h:=heap_alloc_new (wr.alloc (.cells #[.int .i64 3,.int .i64 4,.int .i64 3] 2)) (.cells #[.int .i64 4] 2);rw[World.size_alloc] at h;rw[hWs,hbs];exact h
   have cc:=Zq (ztt C (C.keep ST.out ks.out) hg0.out Bs.out (k:=2) (p:=1) (z:=4) (by unfold I64;omega) (by unfold I64;omega) (by omega) (by decide) (by decide))
   go_wp2_with fail;rw[<- hWs,<- hbs];replace hWs:=Zq hWs;replace hbs:=Zq hbs;refine cc.out.mono ?_;rintro e w3 ⟨r,rfl,o3⟩;replace o3:=Zq o3;clear cc;have cc:=Zq (zps C o3.out hg0.out 2 7 (by unfold I64;omega) (by unfold I64;omega) (by decide) (by decide) (by decide +kernel) (L2:=zed 2) rfl)
   go_wp2_with fail;refine cc.out.mono ?_;rintro e w4 ⟨r2,rfl,o4⟩;replace o4:Hid (CS W0 1 q zhf (zed 2) (fun _=>False) w4):=o4
   clear cc;go_wp2;go_roundg (3 - 2)
   case measure=>omega
   case rel=>exact⟨2,by omega,rfl,rfl,o4⟩
  ·have hs:_=Value.int .i64 3:=hs
   subst hs;obtain⟨bs,hbs⟩:=Zn (wr.heap.size+1);obtain⟨Ws,hWs⟩:=Zn ((wr.alloc (.cells #[.int .i64 3,.int .i64 4,.int .i64 3] 2)).alloc (.cells #[.int .i64 3] 2));have ks:Hid (Keep wr Ws):=by rw[hWs];exact(Keep.one _ _).alloc _
   have Bs:Hid (Ws.heap[bs]?=some (.cells #[.int .i64 3] 2 (0,0))):=by
    show _=_
    have h:=heap_alloc_new (wr.alloc (.cells #[.int .i64 3,.int .i64 4,.int .i64 3] 2)) (.cells #[.int .i64 3] 2);rw[World.size_alloc] at h;rw[hWs,hbs];exact h
   have cc:=Zq (ztt C (C.keep ST.out ks.out) hg0.out Bs.out (k:=3) (p:=1) (z:=3) (by unfold I64;omega) (by unfold I64;omega) (by omega) (by decide) (by decide))
   go_wp2_with fail;rw[<- hWs,<- hbs];replace hWs:=Zq hWs;replace hbs:=Zq hbs;refine cc.out.mono ?_;rintro e w3 ⟨r,rfl,o3⟩;replace o3:=Zq o3;clear cc;have cc:=Zq (zps C o3.out hg0.out 3 7 (by unfold I64;omega) (by unfold I64;omega) (by decide) (by decide) (by decide +kernel) (L2:=zed 3) rfl)
   go_wp2_with fail;refine cc.out.mono ?_;rintro e w4 ⟨r2,rfl,o4⟩;replace o4:Hid (CS W0 1 q zhf (zed 3) (fun _=>False) w4):=o4
   clear cc;go_wp2;go_roundg (3 - 3)
   case measure=>omega
   case rel=>exact⟨3,by omega,rfl,rfl,o4⟩
  ·have hs:_=Value.int .i64 4:=hs
   subst hs;have o3:=ST;generalize hwo:wr=w3 at *;clear hwo;obtain⟨br,hbr⟩:=Zn (w3.heap.size);obtain⟨bp,hbp⟩:=Zn (w3.heap.size+1);obtain⟨p,hp⟩:=Zn ((lq 9 5 4 (some ⟨br,0,none⟩) 1));obtain⟨Wp,hWp⟩:=Zn ((w3.alloc (.cells #[.int .i64 4] 2)).alloc (.cells (zac p) 26));have s4:(w3.alloc (.cells #[.int .i64 4] 2)).heap.size=w3.heap.size+1:=World.size_alloc _ _;have kp:Hid (Keep w3 Wp):=by rw[hWp];exact(Keep.one _ _).alloc _
   have Br:Hid (Wp.heap[br]?=some (.cells #[.int .i64 4] 2 (0,0))):=by show _=_;rw[hWp,hbr];exact(Keep.one _ _).block (heap_alloc_new _ _)
   have Bp:Hid (Wp.heap[bp]?=some (.cells (zac p) 26 (0,0))):=by show _=_;rw[hWp,hbp,<- s4];exact heap_alloc_new _ _
   have KWp:Hid (Keep W0 Wp):=(C.kp o3.out).trans kp.out;have oWp:=Zq (C.keep o3.out kp.out);have pis:Hid (∀ Wz,Keep Wp Wz->zah Wz (lq 9 5 4 (some ⟨br,0,none⟩) 1)):=fun Wz kk=>ajc (by unfold I64;omega) (by unfold I64;omega) (zve (Keep.block kk Br.out) (by omega)) (fun e=>by cases e)
   have KF:Hid (∀ Wz,Keep Wp Wz->CS W0 1 q zhf (zed 3) (fun _=>False) Wz/\zbk Wz/\zah Wz (lq 9 5 4 (some ⟨br,0,none⟩) 1)):=fun Wz kk=>⟨C.keep oWp.out kk,hg0.out.keep (KWp.out.trans kk),pis.out Wz kk⟩
   have X0:=zae Bp.out;have x0:=X0.e0;have x1:=X0.e1;have x2:=X0.e2;have x3:=X0.e3;have x4:=X0.e4;have x5:=X0.e5;have x6:=X0.e6;have x7:=X0.e7;have x8:=X0.e8;clear X0;have cc:=Zq (aje F (lq 9 5 4 (some ⟨br,0,none⟩) 1) 7 (KF.out Wp (Keep.refl _)).1 (KF.out Wp (Keep.refl _)).2.1 (KF.out Wp (Keep.refl _)).2.2 (by unfold I64;omega) (by omega) (by show(1:Nat)<=1000;omega) (by decide) (by decide) zpr (aaa _ _) (l:=[lc 2 1 4 1 3 7]) (n:=1) (by rw[ajp];rfl) rfl)
   have hp2:=hp;unfold zac at hWp;rw[hp] at hWp;unfold lq at hWp;simp only at hWp;rw[hbr] at hWp;rw[hWp] at x0 x1 x2 x3 x4 x5 x6 x7 x8;rw[hbp] at x0 x1 x2 x3 x4 x5 x6 x7 x8;rw[hp] at x0 x1 x2 x3 x4 x5 x6 x7 x8;unfold lq at x0 x1 x2 x3 x4 x5 x6 x7 x8;simp only at x0 x1 x2 x3 x4 x5 x6 x7 x8;rw[hbr] at x4;replace hp:=Zq hp;replace s4:=Zq s4;have Bp:Hid (Wp.heap[bp]?=some (.cells (zac (lq 9 5 4 (some ⟨br,0,none⟩) 1)) 26 (0,0))):=by rw[<- hp2];exact Bp.out
   replace hp2:=Zq hp2;unfold zaa.val lq at cc;simp only at cc;rw[hbr] at cc;go_wp2_with fail;rw[<- hWp,<- hbp,<- hbr];rw[<- hbr] at cc;replace hWp:=Zq hWp;replace hbp:=Zq hbp;replace hbr:=Zq hbr;clear x0 x1 x2 x3 x4 x5 x6 x7 x8;refine cc.out.mono ?_;rintro e w4 ⟨oA,oc,oP,rfl,OR,OE,ON,kk⟩;clear cc;have K4:Hid (Keep Wp w4):=kk;clear kk;replace OR:=Zq OR;replace OE:=Zq OE;replace ON:=Zq ON;have X0:=zae (x:=(lq 9 5 4 (some ⟨br,0,none⟩) 1)) (Keep.block K4.out Bp.out);have x0:=X0.e0;have x1:=X0.e1;have x2:=X0.e2;have x3:=X0.e3;have x4:=X0.e4;have x5:=X0.e5;have x6:=X0.e6;have x7:=X0.e7;have x8:=X0.e8;clear X0;unfold lq at x0 x1 x2 x3 x4 x5 x6 x7 x8;simp only at x0 x1 x2 x3 x4 x5 x6 x7 x8;have cc:=Zq (aje F (lq 9 5 4 (some ⟨br,0,none⟩) 1) 8 (KF.out w4 K4.out).1 (KF.out w4 K4.out).2.1 (KF.out w4 K4.out).2.2 (by unfold I64;omega) (by omega) (by show(1:Nat)<=1000;omega) (by decide) (by decide) zpr (ajo _ _) (l:=[]) (n:=0) rfl rfl)
   unfold zaa.val lq at cc;simp only at cc;go_wp2_with fail;refine cc.out.mono ?_;rintro e w5 ⟨zA,zc,zP,rfl,_,_,_,k5⟩;clear cc x0 x1 x2 x3 x4 x5 x6 x7 x8;have K5:Hid (Keep w4 w5):=k5;replace k5:=Zq k5;have KP5:Hid (Keep Wp w5):=K4.out.trans K5.out;have cL:Hid (∀ Wz,Keep Wp Wz->Calls Tryz.prog 13 #[.pointer (some ⟨q,0,none⟩),(lq 9 5 4 (some ⟨br,0,none⟩) 1).val,.int .i64 7] Wz fun e w'=>∃ A c P,e=.returned (.slice A 3 c)/\zai w' A 3 P/\keys (T13.lst P 3)=[1,2,3]/\(A=none->3=0/\c=0)/\Keep Wz w'):=fun Wz kk=>by
    obtain⟨k1,k2,k3⟩:=KF.out Wz kk;exact abb F (lq 9 5 4 (some ⟨br,0,none⟩) 1) 7 k1 k2 k3 (by unfold I64;omega) (by omega) (by decide) (by decide) zpr (l:=zed 3) (n:=3) (ajn _ _) rfl
   have cP:Hid (∀ Wz,Keep Wp Wz->Calls Tryz.prog 15 #[.pointer (some ⟨q,0,none⟩),(lq 9 5 4 (some ⟨br,0,none⟩) 1).val,.int .i64 7] Wz fun e w'=>e=.returned (.bool true)/\Keep Wz w'):=fun Wz kk=>by
    obtain⟨k1,k2,k3⟩:=KF.out Wz kk;have h:=F.possible (lq 9 5 4 (some ⟨br,0,none⟩) 1) 7 k1 k2 k3 (by unfold I64;omega) (by omega) (by show(1:Nat)<=1000;omega) (by decide) (by decide) zpr
    rw[aaa] at h;exact h
   have cI:Hid (∀ Wz,Keep w4 Wz->Calls Tryz.prog 23 #[.slice oA 1 oc] Wz fun e w'=>∃ v,e=.returned v/\zbv w' v [2]/\Keep Wz w'):=fun Wz kk=>by
    have h:=F.ids oA 1 oc oP (OR.out.keep kk) ON.out (by omega)
    rw[OE.out] at h;exact h
   have cM:Hid (∀ Wz A n c Pz I b,Keep Wp Wz->zai Wz A n Pz->keys (T13.lst Pz n)=I->(A=none->n=0/\c=0)->n<=100->zgn (zdn (lq 9 5 4 (some ⟨br,0,none⟩) 1) 7 zhf (zed 3) 1) I=b->Calls Tryz.prog 20 #[.pointer (some ⟨q,0,none⟩),(lq 9 5 4 (some ⟨br,0,none⟩) 1).val,.int .i64 7,.slice A n c] Wz fun e w'=>e=.returned (.bool b)/\Keep Wz w'):=fun Wz A n c Pz I b kk hr hk hn h100 hb=>by
    obtain⟨k1,k2,k3⟩:=KF.out Wz kk;have h:=F.minimal (lq 9 5 4 (some ⟨br,0,none⟩) 1) 7 A n c Pz k1 k2 k3 (by unfold I64;omega) (by omega) (by show(1:Nat)<=1000;omega) (by decide) (by decide) hr hn h100
    rw[hk,hb] at h;exact h
   have cZ:Hid (∀ Wz,Keep Wp Wz->Calls Tryz.prog 15 #[.pointer none,(lq 9 5 4 (some ⟨br,0,none⟩) 1).val,.int .i64 7] Wz fun e w'=>e=.returned (.bool false)/\Keep Wz w'):=fun Wz kk=>by
    obtain⟨k1,k2,k3⟩:=KF.out Wz kk;exact F.none (lq 9 5 4 (some ⟨br,0,none⟩) 1) 7 Wz k3 k2
   unfold zaa.val lq at cL cP cM cZ;simp only at cL cP cM cZ;go_upto_region 12 with fail
   have HELD:∀ Wz,Keep w5 Wz->(Wz.cell? ⟨bp,0,none⟩=some (.int .i64 9)/\Wz.cell? ⟨bp,1,none⟩=some (.int .i64 5)/\Wz.cell? ⟨bp,2,none⟩=some (.bool false)/\Wz.cell? ⟨bp,3,none⟩=some (.int .i64 0)/\Wz.cell? ⟨bp,4,none⟩=some (.slice (some ⟨br,0,none⟩) 1 1)/\Wz.cell? ⟨bp,5,none⟩=some (.int .i64 0)/\Wz.cell? ⟨bp,6,none⟩=some (.int .i64 0)/\Wz.cell? ⟨bp,7,none⟩=some (.int .i64 0)/\Wz.cell? ⟨bp,8,none⟩=some (.int .i64 0)):=fun Wz KK=>⟨(zae (x:=(lq 9 5 4 (some ⟨br,0,none⟩) 1)) (Keep.block (KP5.out.trans KK) Bp.out)).e0,(zae (x:=(lq 9 5 4 (some ⟨br,0,none⟩) 1)) (Keep.block (KP5.out.trans KK) Bp.out)).e1,(zae (x:=(lq 9 5 4 (some ⟨br,0,none⟩) 1)) (Keep.block (KP5.out.trans KK) Bp.out)).e2,(zae (x:=(lq 9 5 4 (some ⟨br,0,none⟩) 1)) (Keep.block (KP5.out.trans KK) Bp.out)).e3,(zae (x:=(lq 9 5 4 (some ⟨br,0,none⟩) 1)) (Keep.block (KP5.out.trans KK) Bp.out)).e4,(zae (x:=(lq 9 5 4 (some ⟨br,0,none⟩) 1)) (Keep.block (KP5.out.trans KK) Bp.out)).e5,(zae (x:=(lq 9 5 4 (some ⟨br,0,none⟩) 1)) (Keep.block (KP5.out.trans KK) Bp.out)).e6,(zae (x:=(lq 9 5 4 (some ⟨br,0,none⟩) 1)) (Keep.block (KP5.out.trans KK) Bp.out)).e7,(zae (x:=(lq 9 5 4 (some ⟨br,0,none⟩) 1)) (Keep.block (KP5.out.trans KK) Bp.out)).e8⟩
   refine OrdS.rest_start (fun w'=>w'.cell? ⟨bp,0,none⟩=some (.int .i64 9)/\w'.cell? ⟨bp,1,none⟩=some (.int .i64 5)/\w'.cell? ⟨bp,2,none⟩=some (.bool false)/\w'.cell? ⟨bp,3,none⟩=some (.int .i64 0)/\w'.cell? ⟨bp,4,none⟩=some (.slice (some ⟨br,0,none⟩) 1 1)/\w'.cell? ⟨bp,5,none⟩=some (.int .i64 0)/\w'.cell? ⟨bp,6,none⟩=some (.int .i64 0)/\w'.cell? ⟨bp,7,none⟩=some (.int .i64 0)/\w'.cell? ⟨bp,8,none⟩=some (.int .i64 0)) [] (by kernel_rfl) ?_ (fun hHeld=>?_)
   ·exact HELD _ (Keep.refl w5).drew
   obtain⟨wt0,hwt0⟩:=Zn (w5.drew);have Kwt0:Hid (Keep w5 wt0):=by rw[hwt0];exact(Keep.refl _).drew
   rw[<- hwt0] at hHeld ⊢;replace hwt0:=Zq hwt0;refine OrdS.rt 0 (.pointer (some ⟨q,0,none⟩)) hHeld ?_
   simp only[Act.put,Zp];refine OrdS.rt 1 (.agg #[.int .i64 9,.int .i64 5,.bool false,.int .i64 0,.slice (some ⟨br,0,none⟩) 1 1,.int .i64 0,.int .i64 0,.int .i64 0,.int .i64 0]) hHeld ?_
   simp only[Act.put,Zp];refine OrdS.rest_ready (rs:=[2]) (by kernel_rfl) (by simp) ?_
   refine OrdS.Each.cons rfl (fun K hK=>?_) OrdS.Each.nil
   simp only[Zp];rw[if_pos (by rfl)]
   go_simp
   refine(cL.out _ (KP5.out.trans Kwt0.out)).mono ?_;rintro e w6 ⟨lA,lc,lP,rfl,_,_,_,k6⟩;have K6:Hid (Keep w5 w6):=Kwt0.out.trans k6;replace k6:=Zq k6;go_wp2_with fail;refine hK.out _ _ (fun _=>HELD _ K6.out) ?_
   have hHeld:=HELD _ K6.out;clear hK K;try simp only[Act.put,Zp]
   refine OrdS.rt 3 (.int .i64 3) hHeld ?_
   simp only[Act.put,Zp];refine OrdS.rt 4 (.bool true) hHeld ?_
   simp only[Act.put,Zp];refine OrdS.rt 5 (.bool true) hHeld ?_
   simp only[Act.put,Zp];refine OrdS.rt 6 (.pointer (some ⟨q,0,none⟩)) hHeld ?_
   simp only[Act.put,Zp];refine OrdS.rt 7 (.agg #[.int .i64 9,.int .i64 5,.bool false,.int .i64 0,.slice (some ⟨br,0,none⟩) 1 1,.int .i64 0,.int .i64 0,.int .i64 0,.int .i64 0]) hHeld ?_
   simp only[Act.put,Zp];refine OrdS.rest_ready (rs:=[8]) (by kernel_rfl) (by simp) ?_
   refine OrdS.Each.cons rfl (fun K hK=>?_) OrdS.Each.nil
   simp only[Zp];rw[if_pos (by rfl)]
   go_simp
   refine(cP.out _ (KP5.out.trans K6.out)).mono ?_;rintro e w7 ⟨rfl,k7⟩;have K7:Hid (Keep w5 w7):=K6.out.trans k7;replace k7:=Zq k7;go_wp2_with fail;refine hK.out _ _ (fun _=>HELD _ K7.out) ?_
   have hHeld:=HELD _ K7.out;clear hK K;try simp only[Act.put,Zp]
   refine OrdS.rt 9 (.bool true) hHeld ?_
   simp only[Act.put,Zp];refine OrdS.rt 10 (.bool true) hHeld ?_
   simp only[Act.put,Zp];refine OrdS.rt 11 (.slice oA 1 oc) hHeld ?_
   simp only[Act.put,Zp];refine OrdS.rest_ready (rs:=[12,13]) (by kernel_rfl) (by simp) ?_
   refine OrdS.Each.cons rfl (fun K hK=>?_) (OrdS.Each.cons rfl (fun K hK=>?_) OrdS.Each.nil)
   ·simp only[Zp]
    rw[if_pos (by rfl)]
    go_simp
    refine(cI.out w7 (K5.out.trans K7.out)).mono ?_;rintro e w8 ⟨v8,rfl,i8,k8⟩;have K8:Hid (Keep w5 w8):=K7.out.trans k8;go_wp2_with fail;refine hK.out _ _ (fun _=>HELD _ K8.out) ?_
    have hHeld:=HELD _ K8.out;clear hK K;try simp only[Act.put,Zp]
    refine OrdS.rest_ready (rs:=[13]) (by kernel_rfl) (by simp) ?_
    refine OrdS.Each.cons rfl (fun K hK=>?_) OrdS.Each.nil
    simp only[Zp];rw[if_pos (by rfl)]
    go_simp
    obtain⟨wa,hwa⟩:=Zn (w8.alloc (.cells #[.int .i64 2] 3));have Ja:Hid (Keep w8 wa):=by rw[hwa];exact Keep.one _ _
    have Ka:Hid (Keep w5 wa):=K8.out.trans Ja.out;have Ca:Hid (wa.heap[w8.heap.size]?=some (.cells #[.int .i64 2] 3 (0,0))):=by rw[hwa];exact heap_alloc_new _ _
    rw[<- hwa];replace hwa:=Zq hwa;refine hK.out _ _ (fun _=>HELD _ Ka.out) ?_
    have hHeld:=HELD _ Ka.out;clear hK K;try simp only[Act.put,Zp]
    refine OrdS.rest_ready (rs:=[14]) (by kernel_rfl) (by simp) ?_
    refine OrdS.Each.cons rfl (fun K hK=>?_) OrdS.Each.nil
    simp only[Zp];rw[if_pos (by rfl)]
    go_simp
    refine(zun (zbv.keep i8 Ja.out) (zwi Ca.out (by unfold I64;omega))).mono ?_
    rintro e w9 ⟨rfl,k9⟩;have K9:Hid (Keep w5 w9):=Ka.out.trans k9;replace k9:=Zq k9;go_wp2_with fail;refine hK.out _ _ (fun _=>HELD _ K9.out) ?_
    have hHeld:=HELD _ K9.out;clear hK K;try simp only[Act.put,Zp]
    refine OrdS.rt 15 (.bool true) hHeld ?_
    simp only[Act.put,Zp];refine OrdS.rt 16 (.bool true) hHeld ?_
    simp only[Act.put,Zp];refine OrdS.rt 17 (.bool true) hHeld ?_
    simp only[Act.put,Zp];refine OrdS.rt 18 (.bool true) hHeld ?_
    simp only[Act.put,Zp];refine OrdS.rt 19 (.bool true) hHeld ?_
    simp only[Act.put,Zp];refine OrdS.rt 20 (.bool false) hHeld ?_
    simp only[Act.put,Zp];refine OrdS.rt 21 (.bool true) hHeld ?_
    simp only[Act.put,Zp];refine OrdS.rt 22 (.bool true) hHeld ?_
    simp only[Act.put,Zp];refine OrdS.rt 23 (.bool true) hHeld ?_
    simp only[Act.put,Zp];refine OrdS.rt 24 (.pointer (some ⟨q,0,none⟩)) hHeld ?_
    simp only[Act.put,Zp];refine OrdS.rt 25 (.agg #[.int .i64 9,.int .i64 5,.bool false,.int .i64 0,.slice (some ⟨br,0,none⟩) 1 1,.int .i64 0,.int .i64 0,.int .i64 0,.int .i64 0]) hHeld ?_
    simp only[Act.put,Zp];refine OrdS.rt 26 (.slice oA 1 oc) hHeld ?_
    simp only[Act.put,Zp];refine OrdS.rest_ready (rs:=[27]) (by kernel_rfl) (by simp) ?_
    refine OrdS.Each.cons rfl (fun K hK=>?_) OrdS.Each.nil
    simp only[Zp];rw[if_pos (by rfl)]
    go_simp
    refine(cM.out w9 oA 1 oc oP [2] true (KP5.out.trans K9.out) (OR.out.keep (K5.out.trans K9.out)) OE.out ON.out (by omega) (zzz _ _)).mono ?_
    rintro e w10 ⟨rfl,k10⟩;have K10:Hid (Keep w5 w10):=K9.out.trans k10;replace k10:=Zq k10;go_wp2_with fail;refine hK.out _ _ (fun _=>HELD _ K10.out) ?_
    have hHeld:=HELD _ K10.out;clear hK K;try simp only[Act.put,Zp]
    refine OrdS.rt 28 (.bool true) hHeld ?_
    simp only[Act.put,Zp];refine OrdS.rt 29 (.bool true) hHeld ?_
    simp only[Act.put,Zp];refine OrdS.rt 30 (.pointer (some ⟨q,0,none⟩)) hHeld ?_
    simp only[Act.put,Zp];refine OrdS.rt 31 (.agg #[.int .i64 9,.int .i64 5,.bool false,.int .i64 0,.slice (some ⟨br,0,none⟩) 1 1,.int .i64 0,.int .i64 0,.int .i64 0,.int .i64 0]) hHeld ?_
    simp only[Act.put,Zp];refine OrdS.rt 32 (.pointer (some ⟨q,0,none⟩)) hHeld ?_
    simp only[Act.put,Zp];refine OrdS.rt 33 (.agg #[.int .i64 9,.int .i64 5,.bool false,.int .i64 0,.slice (some ⟨br,0,none⟩) 1 1,.int .i64 0,.int .i64 0,.int .i64 0,.int .i64 0]) hHeld ?_
    simp only[Act.put,Zp];refine OrdS.rest_ready (rs:=[34]) (by kernel_rfl) (by simp) ?_
    refine OrdS.Each.cons rfl (fun K hK=>?_) OrdS.Each.nil
    simp only[Zp];rw[if_pos (by rfl)]
    go_simp
    refine(cL.out _ (KP5.out.trans K10.out)).mono ?_;rintro e w11 ⟨mA,mc,mP,rfl,MR,ME,MN,k11⟩;have K11:Hid (Keep w5 w11):=K10.out.trans k11;replace k11:=Zq k11;replace MR:=Zq MR;replace ME:=Zq ME;replace MN:=Zq MN;go_wp2_with fail;refine hK.out _ _ (fun _=>HELD _ K11.out) ?_
    have hHeld:=HELD _ K11.out;clear hK K;try simp only[Act.put,Zp]
    refine OrdS.rest_ready (rs:=[35]) (by kernel_rfl) (by simp) ?_
    refine OrdS.Each.cons rfl (fun K hK=>?_) OrdS.Each.nil
    simp only[Zp];rw[if_pos (by rfl)]
    go_simp
    refine(cM.out w11 mA 3 mc mP [1,2,3] false (KP5.out.trans K11.out) MR.out ME.out MN.out (by omega) (zzy _ _)).mono ?_
    rintro e w12 ⟨rfl,k12⟩;have K12:Hid (Keep w5 w12):=K11.out.trans k12;replace k12:=Zq k12;go_wp2_with fail;refine hK.out _ _ (fun _=>HELD _ K12.out) ?_
    have hHeld:=HELD _ K12.out;clear hK K;try simp only[Act.put,Zp]
    refine OrdS.rt 36 (.bool true) hHeld ?_
    simp only[Act.put,Zp];refine OrdS.rt 37 (.bool true) hHeld ?_
    simp only[Act.put,Zp];refine OrdS.rt 38 (.bool true) hHeld ?_
    simp only[Act.put,Zp];refine OrdS.rt 39 (.agg #[.int .i64 9,.int .i64 5,.bool false,.int .i64 0,.slice (some ⟨br,0,none⟩) 1 1,.int .i64 0,.int .i64 0,.int .i64 0,.int .i64 0]) hHeld ?_
    simp only[Act.put,Zp];refine OrdS.rest_ready (rs:=[40]) (by kernel_rfl) (by simp) ?_
    refine OrdS.Each.cons rfl (fun K hK=>?_) OrdS.Each.nil
    simp only[Zp];rw[if_pos (by rfl)]
    go_simp
    refine(cZ.out _ (KP5.out.trans K12.out)).mono ?_;rintro e w13 ⟨rfl,k13⟩;have K13:Hid (Keep w5 w13):=K12.out.trans k13;replace k13:=Zq k13;go_wp2_with fail;refine hK.out _ _ (fun _=>HELD _ K13.out) ?_
    have hHeld:=HELD _ K13.out;clear hK K;try simp only[Act.put,Zp]
    refine OrdS.rt 41 (.bool true) hHeld ?_
    simp only[Act.put,Zp];refine OrdS.rt 42 (.bool true) hHeld ?_
    simp only[Act.put,Zp];refine OrdS.rt 43 (.bool true) hHeld ?_
    simp only[Act.put,Zp];refine OrdS.rest_done (by kernel_rfl) ?_ _
    clear hHeld HELD;go_wp2;go_ret
    exact⟨rfl,KWp.out.trans (KP5.out.trans K13.out)⟩
   ·simp only[Zp]
    rw[if_pos (by rfl)]
    go_simp
    obtain⟨wa,hwa⟩:=Zn (w7.alloc (.cells #[.int .i64 2] 3));have Ja:Hid (Keep w7 wa):=by rw[hwa];exact Keep.one _ _
    have Ka:Hid (Keep w5 wa):=K7.out.trans Ja.out;have Ca:Hid (wa.heap[w7.heap.size]?=some (.cells #[.int .i64 2] 3 (0,0))):=by rw[hwa];exact heap_alloc_new _ _
    rw[<- hwa];replace hwa:=Zq hwa;refine hK.out _ _ (fun _=>HELD _ Ka.out) ?_
    have hHeld:=HELD _ Ka.out;clear hK K;try simp only[Act.put,Zp]
    refine OrdS.rest_ready (rs:=[12]) (by kernel_rfl) (by simp) ?_
    refine OrdS.Each.cons rfl (fun K hK=>?_) OrdS.Each.nil
    simp only[Zp];rw[if_pos (by rfl)]
    go_simp
    refine(cI.out wa (K5.out.trans Ka.out)).mono ?_;rintro e w8 ⟨v8,rfl,i8,k8⟩;have K8:Hid (Keep w5 w8):=Ka.out.trans k8;go_wp2_with fail;refine hK.out _ _ (fun _=>HELD _ K8.out) ?_
    have hHeld:=HELD _ K8.out;clear hK K;try simp only[Act.put,Zp]
    refine OrdS.rest_ready (rs:=[14]) (by kernel_rfl) (by simp) ?_
    refine OrdS.Each.cons rfl (fun K hK=>?_) OrdS.Each.nil
    simp only[Zp];rw[if_pos (by rfl)]
    go_simp
    refine(zun i8 (zwi (Keep.block k8 Ca.out) (by unfold I64;omega))).mono ?_
    rintro e w9 ⟨rfl,k9⟩;have K9:Hid (Keep w5 w9):=K8.out.trans k9;replace k9:=Zq k9;go_wp2_with fail;refine hK.out _ _ (fun _=>HELD _ K9.out) ?_
    have hHeld:=HELD _ K9.out;clear hK K;try simp only[Act.put,Zp]
    refine OrdS.rt 15 (.bool true) hHeld ?_
    simp only[Act.put,Zp];refine OrdS.rt 16 (.bool true) hHeld ?_
    simp only[Act.put,Zp];refine OrdS.rt 17 (.bool true) hHeld ?_
    simp only[Act.put,Zp];refine OrdS.rt 18 (.bool true) hHeld ?_
    simp only[Act.put,Zp];refine OrdS.rt 19 (.bool true) hHeld ?_
    simp only[Act.put,Zp];refine OrdS.rt 20 (.bool false) hHeld ?_
    simp only[Act.put,Zp];refine OrdS.rt 21 (.bool true) hHeld ?_
    simp only[Act.put,Zp];refine OrdS.rt 22 (.bool true) hHeld ?_
    simp only[Act.put,Zp];refine OrdS.rt 23 (.bool true) hHeld ?_
    simp only[Act.put,Zp];refine OrdS.rt 24 (.pointer (some ⟨q,0,none⟩)) hHeld ?_
    simp only[Act.put,Zp];refine OrdS.rt 25 (.agg #[.int .i64 9,.int .i64 5,.bool false,.int .i64 0,.slice (some ⟨br,0,none⟩) 1 1,.int .i64 0,.int .i64 0,.int .i64 0,.int .i64 0]) hHeld ?_
    simp only[Act.put,Zp];refine OrdS.rt 26 (.slice oA 1 oc) hHeld ?_
    simp only[Act.put,Zp];refine OrdS.rest_ready (rs:=[27]) (by kernel_rfl) (by simp) ?_
    refine OrdS.Each.cons rfl (fun K hK=>?_) OrdS.Each.nil
    simp only[Zp];rw[if_pos (by rfl)]
    go_simp
    refine(cM.out w9 oA 1 oc oP [2] true (KP5.out.trans K9.out) (OR.out.keep (K5.out.trans K9.out)) OE.out ON.out (by omega) (zzz _ _)).mono ?_
    rintro e w10 ⟨rfl,k10⟩;have K10:Hid (Keep w5 w10):=K9.out.trans k10;replace k10:=Zq k10;go_wp2_with fail;refine hK.out _ _ (fun _=>HELD _ K10.out) ?_
    have hHeld:=HELD _ K10.out;clear hK K;try simp only[Act.put,Zp]
    refine OrdS.rt 28 (.bool true) hHeld ?_
    simp only[Act.put,Zp];refine OrdS.rt 29 (.bool true) hHeld ?_
    simp only[Act.put,Zp];refine OrdS.rt 30 (.pointer (some ⟨q,0,none⟩)) hHeld ?_
    simp only[Act.put,Zp];refine OrdS.rt 31 (.agg #[.int .i64 9,.int .i64 5,.bool false,.int .i64 0,.slice (some ⟨br,0,none⟩) 1 1,.int .i64 0,.int .i64 0,.int .i64 0,.int .i64 0]) hHeld ?_
    simp only[Act.put,Zp];refine OrdS.rt 32 (.pointer (some ⟨q,0,none⟩)) hHeld ?_
    simp only[Act.put,Zp];refine OrdS.rt 33 (.agg #[.int .i64 9,.int .i64 5,.bool false,.int .i64 0,.slice (some ⟨br,0,none⟩) 1 1,.int .i64 0,.int .i64 0,.int .i64 0,.int .i64 0]) hHeld ?_
    simp only[Act.put,Zp];refine OrdS.rest_ready (rs:=[34]) (by kernel_rfl) (by simp) ?_
    refine OrdS.Each.cons rfl (fun K hK=>?_) OrdS.Each.nil
    simp only[Zp];rw[if_pos (by rfl)]
    go_simp
    refine(cL.out _ (KP5.out.trans K10.out)).mono ?_;rintro e w11 ⟨mA,mc,mP,rfl,MR,ME,MN,k11⟩;have K11:Hid (Keep w5 w11):=K10.out.trans k11;replace k11:=Zq k11;replace MR:=Zq MR;replace ME:=Zq ME;replace MN:=Zq MN;go_wp2_with fail;refine hK.out _ _ (fun _=>HELD _ K11.out) ?_
    have hHeld:=HELD _ K11.out;clear hK K;try simp only[Act.put,Zp]
    refine OrdS.rest_ready (rs:=[35]) (by kernel_rfl) (by simp) ?_
    refine OrdS.Each.cons rfl (fun K hK=>?_) OrdS.Each.nil
    simp only[Zp];rw[if_pos (by rfl)]
    go_simp
    refine(cM.out w11 mA 3 mc mP [1,2,3] false (KP5.out.trans K11.out) MR.out ME.out MN.out (by omega) (zzy _ _)).mono ?_
    rintro e w12 ⟨rfl,k12⟩;have K12:Hid (Keep w5 w12):=K11.out.trans k12;replace k12:=Zq k12;go_wp2_with fail;refine hK.out _ _ (fun _=>HELD _ K12.out) ?_
    have hHeld:=HELD _ K12.out;clear hK K;try simp only[Act.put,Zp]
    refine OrdS.rt 36 (.bool true) hHeld ?_
    simp only[Act.put,Zp];refine OrdS.rt 37 (.bool true) hHeld ?_
    simp only[Act.put,Zp];refine OrdS.rt 38 (.bool true) hHeld ?_
    simp only[Act.put,Zp];refine OrdS.rt 39 (.agg #[.int .i64 9,.int .i64 5,.bool false,.int .i64 0,.slice (some ⟨br,0,none⟩) 1 1,.int .i64 0,.int .i64 0,.int .i64 0,.int .i64 0]) hHeld ?_
    simp only[Act.put,Zp];refine OrdS.rest_ready (rs:=[40]) (by kernel_rfl) (by simp) ?_
    refine OrdS.Each.cons rfl (fun K hK=>?_) OrdS.Each.nil
    simp only[Zp];rw[if_pos (by rfl)]
    go_simp
    refine(cZ.out _ (KP5.out.trans K12.out)).mono ?_;rintro e w13 ⟨rfl,k13⟩;have K13:Hid (Keep w5 w13):=K12.out.trans k13;replace k13:=Zq k13;go_wp2_with fail;refine hK.out _ _ (fun _=>HELD _ K13.out) ?_
    have hHeld:=HELD _ K13.out;clear hK K;try simp only[Act.put,Zp]
    refine OrdS.rt 41 (.bool true) hHeld ?_
    simp only[Act.put,Zp];refine OrdS.rt 42 (.bool true) hHeld ?_
    simp only[Act.put,Zp];refine OrdS.rt 43 (.bool true) hHeld ?_
    simp only[Act.put,Zp];refine OrdS.rest_done (by kernel_rfl) ?_ _
    clear hHeld HELD;go_wp2;go_ret
    exact⟨rfl,KWp.out.trans (KP5.out.trans K13.out)⟩
end Go.Proofs.YtcogiogjpbkeaaaGreatDoor.T18
