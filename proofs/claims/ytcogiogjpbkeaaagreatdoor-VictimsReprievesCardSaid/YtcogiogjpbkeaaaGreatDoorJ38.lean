/-
  slices.symMergeCmpFunc at pods: one element to the left, or to the right. Condition: both sides are in order, the left's numbers are the lesser.
  slices.symMergeCmpFunc at pods, whole. Condition: both sides are in order, the left's numbers are the lesser.
  slices.SortStableFunc at pods: the row holds its elements in the stable order. Condition: fewer than 2^62 elements.
-/
import Derived.Test.YtcogiogjpbkeaaaGreatDoorJ0
import Derived.Test.YtcogiogjpbkeaaaGreatDoorJ37
namespace Go.Proofs.YtcogiogjpbkeaaaGreatDoor
open Go.Shelf Go.RowKit Go.Lib Go.Sort
variable{P:Program}{k:Nat}
set_option maxHeartbeats 8000000 in
set_option maxRecDepth 1000000 in
theorem ztf(L:SLy P k)(enc:Nat->List Value)(cf:Nat->Nat->Int)(g:Nat)(cb:Array Value)(hO:SWO (ltOf cf))(blk off cap a m b:Nat)(d0 d:Array Nat)(w0 w:World)
  (eg:∀ args w,(callFunc g args).run P w=.ok (.enter g args) w) (hcmp:CmpLays P g cb enc k cf blk off d0.size w0) (R:RowK enc k w0 blk off d0) (hs:d0.size=d.size) (S:SWK enc k w0 blk off d w) (hm1:a+1<=m) (hm2:m<=a+1) (hmb:m<b) (hb:b<=d.size) (hsz:d.size<4611686018427387904)
  (hL:SortedIn (loS (ltOf cf)) a m d) (hR:SortedIn (loS (ltOf cf)) m b d) (hX:zra a m b d) :
  Calls P 141 #[.slice (some ⟨blk,off,none⟩) d.size cap,.int .i64 a,.int .i64 m,.int .i64 b,.func (.func g) #[] cb] w fun e w'=>e=.returned (.tuple #[])/\∃ dk:Array Nat,Aside (SWK enc k w0 blk off dk w')/\PermIn a b d dk/\SortedIn (loS (ltOf cf)) a b dk:=by
 have mixed:=L.mixed;have t0:=L.t0;have a0:=L.a0;have z0:=L.z0;have v0:=L.v0;have t3:=L.t3;have a3:=L.a3;have z3:=L.z3;have v3:=L.v3;have t4:=L.t4;have a4:=L.a4;have z4:=L.z4;have v4:=L.v4;have t22:=L.t22;have a22:=L.a22;have z22:=L.z22;have v22:=L.v22;have t25:=L.t25;have a25:=L.a25;have z25:=L.z25;have v25:=L.v25;have aE:=L.aE;have zE:=L.zE;have t54:=L.t54;have a54:=L.a54;have z54:=L.z54;have v54:=L.v54;have u0:=run_underlying L.t0;have u3:=run_underlying L.t3;have u4:=run_underlying L.t4;have u22:=run_underlying L.t22;have u25:=run_underlying L.t25;have u54:=run_underlying L.t54;have FG:=L.fMerge;have HC:Aside _:=hcmp;have S0:Aside (SWK enc k w0 blk off d w):=S;have SR0:=Zq hR;have SL0:=Zq hL;have CR:=Zq hX;have EG:=eg;clear hcmp S hR hL hX;have hd1:((m:Int) - (a:Int)== 1)=true:=beq_iff_eq.2 (by omega)
 go_enter FG,Tryz.ntmps141
 go_wp2
 go_loopg [10,11] (b - a) (fun gx s10 s11 wr=>∃ i j:Nat,s10=.int .i64 i/\s11=.int .i64 j/\m<=i/\i<=j/\j<=b/\j - i<=gx/\Aside (SWK enc k w0 blk off d wr)/\Hid ((∀ p,m<=p->p<i->loS (ltOf cf) d[p]! d[a]! = true)/\(∀ p,j<=p->p<b->loS (ltOf cf) d[p]! d[a]! = false)))
 case atStart=>exact⟨m,b,rfl,rfl,by omega,by omega,by omega,by omega,S0,⟨fun p h1 h2=>by omega,fun p h1 h2=>by omega⟩⟩
 case round =>
  clear S0;obtain⟨i,j,rfl,rfl,hai,hij,hjb,hgx,S1,HI⟩:=hrel
  by_cases hlt:i<j
  ·have hltz:(i:Int)<(j:Int):=by omega
   have lx:=Zq (zjn (lt:=ltOf cf) (CR.out a ((i+j) / 2) (Nat.le_refl _) (by omega) (by omega) (by omega)))
   cases hL:ltOf cf d[(i+j) / 2]! d[a]! with
   | true =>
     have ea50:(((i:Int)+(j:Int)) / 2).toNat=(i+j) / 2:=by omega
     have pa50:(0:Int)<=((i:Int)+(j:Int)) / 2:=by omega
     have ba50:((i:Int)+(j:Int)) / 2<(d.size:Int):=by omega
     have ra50:IntKind.i64.wrap (((i:Int)+(j:Int)) / 2)=((i:Int)+(j:Int)) / 2:=by rw[IntKind.wrap_i64];omega
     have ec50:((a:Int)).toNat=a:=by omega
     have pc50:(0:Int)<=(a:Int):=by omega
     have bc50:(a:Int)<(d.size:Int):=by omega
     have rc50:IntKind.i64.wrap ((a:Int))=(a:Int):=by rw[IntKind.wrap_i64];omega
     obtain⟨x50,hx50⟩:=Zn (d[(i+j) / 2]!);obtain⟨y50,hy50⟩:=Zn (d[a]!);have l50a:=S1.out.ld R (by omega) P ((i+j) / 2) (by omega)
     have l50b:=S1.out.ld R (by omega) P (a) (by omega)
     rw[<- hx50] at l50a;rw[<- hy50] at l50b;have hc50:=S1.out.cmp HC.out (by omega) x50 y50
     have hv50:cf x50 y50<0:=by rw[hx50,hy50];exact of_decide_eq_true hL
     have hd50:decide (cf x50 y50<0)=true:=decide_eq_true hv50;clear hx50 hy50;go_wp2_with fail
     go_quiet_grown (first | (go_at_fn g;refine Calls.grown_of (hc50 _ _)))
     have S2:Aside (SWK enc k w0 blk off d (grow (wr.drewN nq) osq)):=S1.out.grown nq osq;clear l50a l50b hc50 S1;generalize grow (wr.drewN nq) osq=w2 at S2 ⊢;clear nq osq;go_wp2;go_roundg (j - ((i+j) / 2+1))
     case measure=>omega
     case rel =>
      have hh:loS (ltOf cf) d[(i+j) / 2]! d[a]! = true:=lx.out.trans hL;exact⟨(i+j) / 2+1,j,by go_num,rfl,by omega,by omega,hjb,Nat.le_refl _,S2,⟨fun p h1 h2=>zwc hO SR0.out h1 (by omega) (by omega) hh,HI.out.2⟩⟩
   | false =>
     have ea51:(((i:Int)+(j:Int)) / 2).toNat=(i+j) / 2:=by omega
     have pa51:(0:Int)<=((i:Int)+(j:Int)) / 2:=by omega
     have ba51:((i:Int)+(j:Int)) / 2<(d.size:Int):=by omega
     have ra51:IntKind.i64.wrap (((i:Int)+(j:Int)) / 2)=((i:Int)+(j:Int)) / 2:=by rw[IntKind.wrap_i64];omega
     have ec51:((a:Int)).toNat=a:=by omega
     have pc51:(0:Int)<=(a:Int):=by omega
     have bc51:(a:Int)<(d.size:Int):=by omega
     have rc51:IntKind.i64.wrap ((a:Int))=(a:Int):=by rw[IntKind.wrap_i64];omega
     obtain⟨x51,hx51⟩:=Zn (d[(i+j) / 2]!);obtain⟨y51,hy51⟩:=Zn (d[a]!);have l51a:=S1.out.ld R (by omega) P ((i+j) / 2) (by omega)
     have l51b:=S1.out.ld R (by omega) P (a) (by omega)
     rw[<- hx51] at l51a;rw[<- hy51] at l51b;have hc51:=S1.out.cmp HC.out (by omega) x51 y51
     have hv51:¬cf x51 y51<0:=by rw[hx51,hy51];exact of_decide_eq_false hL
     have hd51:decide (cf x51 y51<0)=false:=decide_eq_false hv51;clear hx51 hy51;go_wp2_with fail
     go_quiet_grown (first | (go_at_fn g;refine Calls.grown_of (hc51 _ _)))
     have S2:Aside (SWK enc k w0 blk off d (grow (wr.drewN nq) osq)):=S1.out.grown nq osq;clear l51a l51b hc51 S1;generalize grow (wr.drewN nq) osq=w2 at S2 ⊢;clear nq osq;go_wp2;go_roundg ((i+j) / 2 - i)
     case measure=>omega
     case rel =>
      have hh:loS (ltOf cf) d[(i+j) / 2]! d[a]! = false:=lx.out.trans hL;exact⟨i,(i+j) / 2,rfl,by go_num,by omega,by omega,by omega,Nat.le_refl _,S2,⟨HI.out.1,fun p h1 h2=>zoi hO SR0.out (by omega) h1 h2 hh⟩⟩
  ·obtain rfl:i=j:=by omega
   obtain⟨q,rfl⟩:∃ q,i=q+1:=⟨i - 1,by omega⟩
   go_wp2
   go_loopg [13] (q - a) (fun gx s13 wr=>∃ (x:Nat) (dk:Array Nat),s13=.int .i64 x/\a<=x/\x<=q/\q - x<=gx/\dk.size=d.size/\Aside (SWK enc k w0 blk off dk wr)/\Hid (PermIn a b d dk)/\Hid (∀ p,dk[p]! = d[zco a (a+1) (x+1) p]!))
   case atStart=>exact⟨a,d,rfl,Nat.le_refl _,by omega,Nat.le_refl _,rfl,S1,permIn_refl _ _ _,fun p=>by rw[zpa]⟩
   case round =>
    clear S1;obtain⟨x,dk,rfl,hax,hxq,hgx,hds,S1,HP,HR⟩:=hrel
    by_cases hlt:x<q
    ·have hltz:(x:Int)<(q:Int):=by omega
     go_wp2_with fail;have ea52:((x:Int)).toNat=x:=by omega
     have pa52:(0:Int)<=(x:Int):=by omega
     have ba52:(x:Int)<(d.size:Int):=by omega
     have ra52:IntKind.i64.wrap ((x:Int))=(x:Int):=by rw[IntKind.wrap_i64];omega
     have ec52:((x:Int)+1).toNat=x+1:=by omega
     have pc52:(0:Int)<=(x:Int)+1:=by omega
     have bc52:(x:Int)+1<(d.size:Int):=by omega
     have rc52:IntKind.i64.wrap ((x:Int)+1)=(x:Int)+1:=by rw[IntKind.wrap_i64];omega
     have S2:Aside (SWK enc k w0 blk off (swp dk (x) (x+1)) ((wr.drew.setCells blk (off+(x) * k) (enc dk[x+1]!)).setCells blk (off+(x+1) * k) (enc dk[x]!))):=S1.out.swapped R (x) (x+1) (by omega) (by omega)
     have l52a:=S1.out.ld1 R (by omega) P (x) (by omega)
     have l52b:=S1.out.ld1 R (by omega) P (x+1) (by omega)
     have s52a:=S1.out.st1 R (by omega) P (x) (by omega) dk[x+1]!
     have s52b:=S1.out.st2 R (by omega) P (x) (x+1) (by omega) (by omega) dk[x+1]! dk[x]!
     have n52a:(enc dk[x]!).length=k:=R.hk _;have n52b:(enc dk[x+1]!).length=k:=R.hk _;generalize enc dk[x]! = cI52 at S2 l52a s52b n52a;generalize enc dk[x+1]! = cJ52 at S2 l52b s52a s52b n52b;clear S1;go_wp2_with fail
     go_big_region_o
     clear l52a l52b s52a s52b;generalize (wr.drew.setCells blk (off+(x) * k) cJ52).setCells blk (off+(x+1) * k) cI52=w2 at S2 ⊢;go_wp2;go_roundg (q - (x+1))
     case measure=>omega
     case rel=>exact⟨x+1,swp dk x (x+1),by go_num,by omega,by omega,Nat.le_refl _,by rw[size_swp];exact hds,S2,permIn_trans _ _ _ _ _ HP.out (swp_permIn _ _ _ _ _ (by omega) (by omega) (by omega) (by omega) (by omega)),alg hax (by omega) HR.out⟩
    ·obtain rfl:x=q:=by omega
     go_wp2
     (try simp only[Exit.inBlock,Exit.then]);refine bodyPost_ret (results_none rfl _ _ _) rfl ?_
     exact⟨rfl,dk,S1,HP.out,zyn hO (by omega) hjb (fun p q h1 h2 h3=>SR0.out p q (by omega) h2 h3) HR.out (fun p h1 h2=>HI.out.1 p (by omega) h2) HI.out.2⟩
set_option maxHeartbeats 8000000 in
set_option maxRecDepth 1000000 in
theorem zqo(L:SLy P k)(enc:Nat->List Value)(cf:Nat->Nat->Int)(g:Nat)(cb:Array Value)(hO:SWO (ltOf cf))(blk off cap a m b:Nat)(d0 d:Array Nat)(w0 w:World)
  (eg:∀ args w,(callFunc g args).run P w=.ok (.enter g args) w) (hcmp:CmpLays P g cb enc k cf blk off d0.size w0) (R:RowK enc k w0 blk off d0) (hs:d0.size=d.size) (S:SWK enc k w0 blk off d w) (ham:a+1<m) (hb1:m+1<=b) (hb2:b<=m+1) (hb:b<=d.size) (hsz:d.size<4611686018427387904)
  (hL:SortedIn (loS (ltOf cf)) a m d) (hR:SortedIn (loS (ltOf cf)) m b d) (hX:zra a m b d) :
  Calls P 141 #[.slice (some ⟨blk,off,none⟩) d.size cap,.int .i64 a,.int .i64 m,.int .i64 b,.func (.func g) #[] cb] w fun e w'=>e=.returned (.tuple #[])/\∃ dk:Array Nat,Aside (SWK enc k w0 blk off dk w')/\PermIn a b d dk/\SortedIn (loS (ltOf cf)) a b dk:=by
 have mixed:=L.mixed;have t0:=L.t0;have a0:=L.a0;have z0:=L.z0;have v0:=L.v0;have t3:=L.t3;have a3:=L.a3;have z3:=L.z3;have v3:=L.v3;have t4:=L.t4;have a4:=L.a4;have z4:=L.z4;have v4:=L.v4;have t22:=L.t22;have a22:=L.a22;have z22:=L.z22;have v22:=L.v22;have t25:=L.t25;have a25:=L.a25;have z25:=L.z25;have v25:=L.v25;have aE:=L.aE;have zE:=L.zE;have t54:=L.t54;have a54:=L.a54;have z54:=L.z54;have v54:=L.v54;have u0:=run_underlying L.t0;have u3:=run_underlying L.t3;have u4:=run_underlying L.t4;have u22:=run_underlying L.t22;have u25:=run_underlying L.t25;have u54:=run_underlying L.t54;have FG:=L.fMerge;have HC:Aside _:=hcmp;have S0:Aside (SWK enc k w0 blk off d w):=S;have SR0:=Zq hR;have SL0:=Zq hL;have CR:=Zq hX;have EG:=eg;clear hcmp S hR hL hX;have hd1:((b:Int) - (m:Int)== 1)=true:=beq_iff_eq.2 (by omega)
 have hne:((m:Int) - (a:Int)== 1)=false:=beq_eq_false_iff_ne.2 (by omega)
 go_enter FG,Tryz.ntmps141
 go_wp2
 go_loopg [14,15] (m - a) (fun gx s14 s15 wr=>∃ i j:Nat,s14=.int .i64 i/\s15=.int .i64 j/\a<=i/\i<=j/\j<=m/\j - i<=gx/\Aside (SWK enc k w0 blk off d wr)/\Hid ((∀ p,a<=p->p<i->loS (ltOf cf) d[m]! d[p]! = false)/\(∀ p,j<=p->p<m->loS (ltOf cf) d[m]! d[p]! = true)))
 case atStart=>exact⟨a,m,rfl,rfl,by omega,by omega,by omega,by omega,S0,⟨fun p h1 h2=>by omega,fun p h1 h2=>by omega⟩⟩
 case round =>
  clear S0;obtain⟨i,j,rfl,rfl,hai,hij,hjb,hgx,S1,HI⟩:=hrel
  by_cases hlt:i<j
  ·have hltz:(i:Int)<(j:Int):=by omega
   have lx:=Zq (zjn (lt:=ltOf cf) (CR.out ((i+j) / 2) m (by omega) (by omega) (Nat.le_refl _) (by omega)))
   cases hL:ltOf cf d[m]! d[(i+j) / 2]! with
   | false =>
     have ea60:((m:Int)).toNat=m:=by omega
     have pa60:(0:Int)<=(m:Int):=by omega
     have ba60:(m:Int)<(d.size:Int):=by omega
     have ra60:IntKind.i64.wrap ((m:Int))=(m:Int):=by rw[IntKind.wrap_i64];omega
     have ec60:(((i:Int)+(j:Int)) / 2).toNat=(i+j) / 2:=by omega
     have pc60:(0:Int)<=((i:Int)+(j:Int)) / 2:=by omega
     have bc60:((i:Int)+(j:Int)) / 2<(d.size:Int):=by omega
     have rc60:IntKind.i64.wrap (((i:Int)+(j:Int)) / 2)=((i:Int)+(j:Int)) / 2:=by rw[IntKind.wrap_i64];omega
     obtain⟨x60,hx60⟩:=Zn (d[m]!);obtain⟨y60,hy60⟩:=Zn (d[(i+j) / 2]!);have l60a:=S1.out.ld R (by omega) P (m) (by omega)
     have l60b:=S1.out.ld R (by omega) P ((i+j) / 2) (by omega)
     rw[<- hx60] at l60a;rw[<- hy60] at l60b;have hc60:=S1.out.cmp HC.out (by omega) x60 y60
     have hv60:¬cf x60 y60<0:=by rw[hx60,hy60];exact of_decide_eq_false hL
     have hd60:decide (cf x60 y60<0)=false:=decide_eq_false hv60;clear hx60 hy60;go_wp2_with fail
     go_quiet_grown (first | (go_at_fn g;refine Calls.grown_of (hc60 _ _)))
     have S2:Aside (SWK enc k w0 blk off d (grow (wr.drewN nq) osq)):=S1.out.grown nq osq;clear l60a l60b hc60 S1;generalize grow (wr.drewN nq) osq=w2 at S2 ⊢;clear nq osq;go_wp2;go_roundg (j - ((i+j) / 2+1))
     case measure=>omega
     case rel =>
      have hh:loS (ltOf cf) d[m]! d[(i+j) / 2]! = false:=lx.out.trans hL;exact⟨(i+j) / 2+1,j,by go_num,rfl,by omega,by omega,hjb,Nat.le_refl _,S2,⟨fun p h1 h2=>zrr hO SL0.out h1 (by omega) (by omega) hh,HI.out.2⟩⟩
   | true =>
     have ea61:((m:Int)).toNat=m:=by omega
     have pa61:(0:Int)<=(m:Int):=by omega
     have ba61:(m:Int)<(d.size:Int):=by omega
     have ra61:IntKind.i64.wrap ((m:Int))=(m:Int):=by rw[IntKind.wrap_i64];omega
     have ec61:(((i:Int)+(j:Int)) / 2).toNat=(i+j) / 2:=by omega
     have pc61:(0:Int)<=((i:Int)+(j:Int)) / 2:=by omega
     have bc61:((i:Int)+(j:Int)) / 2<(d.size:Int):=by omega
     have rc61:IntKind.i64.wrap (((i:Int)+(j:Int)) / 2)=((i:Int)+(j:Int)) / 2:=by rw[IntKind.wrap_i64];omega
     obtain⟨x61,hx61⟩:=Zn (d[m]!);obtain⟨y61,hy61⟩:=Zn (d[(i+j) / 2]!);have l61a:=S1.out.ld R (by omega) P (m) (by omega)
     have l61b:=S1.out.ld R (by omega) P ((i+j) / 2) (by omega)
     rw[<- hx61] at l61a;rw[<- hy61] at l61b;have hc61:=S1.out.cmp HC.out (by omega) x61 y61
     have hv61:cf x61 y61<0:=by rw[hx61,hy61];exact of_decide_eq_true hL
     have hd61:decide (cf x61 y61<0)=true:=decide_eq_true hv61;clear hx61 hy61;go_wp2_with fail
     go_quiet_grown (first | (go_at_fn g;refine Calls.grown_of (hc61 _ _)))
     have S2:Aside (SWK enc k w0 blk off d (grow (wr.drewN nq) osq)):=S1.out.grown nq osq;clear l61a l61b hc61 S1;generalize grow (wr.drewN nq) osq=w2 at S2 ⊢;clear nq osq;go_wp2;go_roundg ((i+j) / 2 - i)
     case measure=>omega
     case rel =>
      have hh:loS (ltOf cf) d[m]! d[(i+j) / 2]! = true:=lx.out.trans hL;exact⟨i,(i+j) / 2,rfl,by go_num,by omega,by omega,by omega,Nat.le_refl _,S2,⟨HI.out.1,fun p h1 h2=>zoj hO SL0.out (by omega) h1 h2 hh⟩⟩
  ·obtain rfl:i=j:=by omega
   go_wp2
   go_loopg [17] (m - i) (fun gx s17 wr=>∃ (x:Nat) (dk:Array Nat),s17=.int .i64 x/\i<=x/\x<=m/\x - i<=gx/\dk.size=d.size/\Aside (SWK enc k w0 blk off dk wr)/\Hid (PermIn a b d dk)/\Hid (∀ p,dk[p]! = d[zco x m (m+1) p]!))
   case atStart=>exact⟨m,d,rfl,by omega,Nat.le_refl _,Nat.le_refl _,rfl,S1,permIn_refl _ _ _,fun p=>by rw[zsy _ _ _ (by omega)]⟩
   case round =>
    clear S1;obtain⟨x,dk,rfl,hix,hxm,hgx,hds,S1,HP,HR⟩:=hrel
    by_cases hlt:i<x
    ·have hltz:(i:Int)<(x:Int):=by omega
     obtain⟨y,rfl⟩:∃ y,x=y+1:=⟨x - 1,by omega⟩
     have hltz':(i:Int)<(y:Int)+1:=by omega
     have hwp:IntKind.i64.wrap (y:Int)=(y:Int):=by rw[IntKind.wrap_i64];omega
     go_wp2_with fail;have ea62:((y:Int)+1).toNat=y+1:=by omega
     have pa62:(0:Int)<=(y:Int)+1:=by omega
     have ba62:(y:Int)+1<(d.size:Int):=by omega
     have ra62:IntKind.i64.wrap ((y:Int)+1)=(y:Int)+1:=by rw[IntKind.wrap_i64];omega
     have ec62:((y:Int)).toNat=y:=by omega
     have pc62:(0:Int)<=(y:Int):=by omega
     have bc62:(y:Int)<(d.size:Int):=by omega
     have rc62:IntKind.i64.wrap ((y:Int))=(y:Int):=by rw[IntKind.wrap_i64];omega
     have S2:Aside (SWK enc k w0 blk off (swp dk (y+1) (y)) ((wr.drew.setCells blk (off+(y+1) * k) (enc dk[y]!)).setCells blk (off+(y) * k) (enc dk[y+1]!))):=S1.out.swapped R (y+1) (y) (by omega) (by omega)
     have l62a:=S1.out.ld1 R (by omega) P (y+1) (by omega)
     have l62b:=S1.out.ld1 R (by omega) P (y) (by omega)
     have s62a:=S1.out.st1 R (by omega) P (y+1) (by omega) dk[y]!
     have s62b:=S1.out.st2 R (by omega) P (y+1) (y) (by omega) (by omega) dk[y]! dk[y+1]!
     have n62a:(enc dk[y+1]!).length=k:=R.hk _;have n62b:(enc dk[y]!).length=k:=R.hk _;generalize enc dk[y+1]! = cI62 at S2 l62a s62b n62a;generalize enc dk[y]! = cJ62 at S2 l62b s62a s62b n62b;clear S1;go_wp2_with fail
     go_big_region_o
     clear l62a l62b s62a s62b;generalize (wr.drew.setCells blk (off+(y+1) * k) cJ62).setCells blk (off+(y) * k) cI62=w2 at S2 ⊢;go_wp2;go_roundg (y - i)
     case measure=>omega
     case rel=>exact⟨y,swp dk (y+1) y,by first | rfl | go_num | (congr 1;omega),by omega,by omega,Nat.le_refl _,by rw[size_swp];exact hds,S2,permIn_trans _ _ _ _ _ HP.out (swp_permIn _ _ _ _ _ (by omega) (by omega) (by omega) (by omega) (by omega)),acr (by omega) (by omega) HR.out⟩
    ·obtain rfl:x=i:=by omega
     go_wp2
     (try simp only[Exit.inBlock,Exit.then]);refine bodyPost_ret (results_none rfl _ _ _) rfl ?_
     exact⟨rfl,dk,S1,HP.out,by rw[show b=m+1 by omega];exact zur hO hai hxm SL0.out HR.out HI.out.1 HI.out.2⟩
end Go.Proofs.YtcogiogjpbkeaaaGreatDoor
namespace Go.Proofs.YtcogiogjpbkeaaaGreatDoor
open Go.Shelf Go.RowKit Go.Lib Go.Sort
variable{P:Program}{k:Nat}
def zrb(P:Program)(k:Nat)(enc:Nat->List Value)(cf:Nat->Nat->Int)(g:Nat)(cb:Array Value)(blk off cap:Nat)(d0:Array Nat)(w0:World)(N:Nat):Prop :=
 ∀ (a m b:Nat) (d:Array Nat) (w:World),b - a<N->d0.size=d.size->SWK enc k w0 blk off d w->a<m->m<b->b<=d.size->d.size<4611686018427387904->SortedIn (loS (ltOf cf)) a m d->SortedIn (loS (ltOf cf)) m b d->zra a m b d ->
  Calls P 141 #[.slice (some ⟨blk,off,none⟩) d.size cap,.int .i64 a,.int .i64 m,.int .i64 b,.func (.func g) #[] cb] w fun e w'=>e=.returned (.tuple #[])/\∃ dk:Array Nat,Aside (SWK enc k w0 blk off dk w')/\PermIn a b d dk/\SortedIn (loS (ltOf cf)) a b dk
set_option maxHeartbeats 16000000 in
set_option maxRecDepth 1000000 in
theorem zvi(L:SLy P k)(enc:Nat->List Value)(cf:Nat->Nat->Int)(g:Nat)(cb:Array Value)(hO:SWO (ltOf cf))(blk off cap a m b:Nat)(d0 d:Array Nat)(w0 w:World)
  (eg:∀ args w,(callFunc g args).run P w=.ok (.enter g args) w) (hcmp:CmpLays P g cb enc k cf blk off d0.size w0) (R:RowK enc k w0 blk off d0) (hs:d0.size=d.size) (S:SWK enc k w0 blk off d w) (ham:a+1<m) (hmb:m+1<b) (hb:b<=d.size) (hsz:d.size<4611686018427387904)
  (hL:SortedIn (loS (ltOf cf)) a m d) (hR:SortedIn (loS (ltOf cf)) m b d) (hX:zra a m b d) (hI:zrb P k enc cf g cb blk off cap d0 w0 (b - a)) :
  Calls P 141 #[.slice (some ⟨blk,off,none⟩) d.size cap,.int .i64 a,.int .i64 m,.int .i64 b,.func (.func g) #[] cb] w fun e w'=>e=.returned (.tuple #[])/\∃ dk:Array Nat,Aside (SWK enc k w0 blk off dk w')/\PermIn a b d dk/\SortedIn (loS (ltOf cf)) a b dk:=by
 have mixed:=L.mixed;have t0:=L.t0;have a0:=L.a0;have z0:=L.z0;have v0:=L.v0;have t3:=L.t3;have a3:=L.a3;have z3:=L.z3;have v3:=L.v3;have t4:=L.t4;have a4:=L.a4;have z4:=L.z4;have v4:=L.v4;have t22:=L.t22;have a22:=L.a22;have z22:=L.z22;have v22:=L.v22;have t25:=L.t25;have a25:=L.a25;have z25:=L.z25;have v25:=L.v25;have aE:=L.aE;have zE:=L.zE;have t54:=L.t54;have a54:=L.a54;have z54:=L.z54;have v54:=L.v54;have u0:=run_underlying L.t0;have u3:=run_underlying L.t3;have u4:=run_underlying L.t4;have u22:=run_underlying L.t22;have u25:=run_underlying L.t25;have u54:=run_underlying L.t54;have FG:=L.fMerge;have HC:Aside _:=hcmp;have S0:Aside (SWK enc k w0 blk off d w):=S;have SR0:=Zq hR;have SL0:=Zq hL;have CR:=Zq hX;have EG:=eg;clear hcmp S hR hL hX;have IH:=Zq hI;have HO:=Zq hO;clear hI hO;have hne1:((m:Int) - (a:Int)== 1)=false:=beq_eq_false_iff_ne.2 (by omega)
 have hne2:((b:Int) - (m:Int)== 1)=false:=beq_eq_false_iff_ne.2 (by omega)
 have eM:∀ args w,(callFunc 141 args).run P w=.ok (.enter 141 args) w:=enters_of L.fMerge (by kernel_rfl) rfl
 have eR:∀ args w,(callFunc 151 args).run P w=.ok (.enter 151 args) w:=enters_of L.fRotate (by kernel_rfl) rfl
 obtain⟨mid,hm1,hm2⟩:∃ mid:Nat,2 * mid<=a+b/\a+b<=2 * mid+1:=⟨(a+b) / 2,by omega,by omega⟩
 have zmid:((a:Int)+(b:Int)) / 2=(mid:Int):=by omega
 go_enter FG,Tryz.ntmps141
 go_upto_if 140 with fail
 go_cut [20,21] from 138 (fun s20 s21 wc=>wc=w/\∃ s0 r0:Nat,s20=.int .i64 s0/\s21=.int .i64 r0/\a<=s0/\s0<=r0/\r0<=m/\r0<=mid/\mid+m<=b+s0/\Hid (s0=a\/s0+b=mid+m)/\Hid (r0=m\/r0+m=mid+m))
 case first =>
  by_cases hmm:mid<m
  ·have hmz:(mid:Int)<(m:Int):=by omega
   go_wp2_with fail;go_meet
   case rel=>exact⟨rfl,mid+m - b,mid,by go_num,rfl,by omega,by omega,by omega,by omega,by omega,Or.inr (by omega),Or.inr rfl⟩
  ·have hmz:¬(mid:Int)<(m:Int):=by omega
   go_wp2_with fail;go_meet
   case rel=>exact⟨rfl,a,m,rfl,rfl,by omega,by omega,by omega,by omega,by omega,Or.inl rfl,Or.inl rfl⟩
 case rest =>
  obtain⟨rfl,s0,r0,rfl,rfl,b1,b2,b3,b4,b5,o1,o2⟩:=hcut;go_wp2
  go_loopg [20,21] (b - a) (fun gx s20 s21 wr=>∃ i j:Nat,s20=.int .i64 i/\s21=.int .i64 j/\s0<=i/\i<=j/\j<=r0/\j - i<=gx/\Aside (SWK enc k w0 blk off d wr)/\Hid ((i=s0\/loS (ltOf cf) d[mid+m - i]! d[i - 1]! = false)/\(j=r0\/loS (ltOf cf) d[mid+m - 1 - j]! d[j]! = true)))
  case atStart=>exact⟨s0,r0,rfl,rfl,Nat.le_refl _,b2,Nat.le_refl _,by omega,S0,⟨Or.inl rfl,Or.inl rfl⟩⟩
  case round =>
   clear S0;obtain⟨i,j,rfl,rfl,hi,hij,hj,hgx,S1,HI⟩:=hrel
   by_cases hlt:i<j
   ·have hltz:(i:Int)<(j:Int):=by omega
    obtain⟨q,hq1,hq2⟩:∃ q:Nat,q+(i+j) / 2+1<=mid+m/\mid+m<=q+(i+j) / 2+1:=⟨mid+m - 1 - (i+j) / 2,by omega,by omega⟩
    have zq:(mid:Int)+(m:Int) - 1 - ((i:Int)+(j:Int)) / 2=(q:Int):=by omega
    have lx:=Zq (zjn (lt:=ltOf cf) (CR.out ((i+j) / 2) (q) (by omega) (by omega) (by omega) (by omega)))
    cases hL:ltOf cf d[q]! d[(i+j) / 2]! with
    | false =>
      have ea70:((q:Int)).toNat=q:=by omega
      have pa70:(0:Int)<=(q:Int):=by omega
      have ba70:(q:Int)<(d.size:Int):=by omega
      have ra70:IntKind.i64.wrap ((q:Int))=(q:Int):=by rw[IntKind.wrap_i64];omega
      have ec70:(((i:Int)+(j:Int)) / 2).toNat=(i+j) / 2:=by omega
      have pc70:(0:Int)<=((i:Int)+(j:Int)) / 2:=by omega
      have bc70:((i:Int)+(j:Int)) / 2<(d.size:Int):=by omega
      have rc70:IntKind.i64.wrap (((i:Int)+(j:Int)) / 2)=((i:Int)+(j:Int)) / 2:=by rw[IntKind.wrap_i64];omega
      obtain⟨x70,hx70⟩:=Zn (d[q]!);obtain⟨y70,hy70⟩:=Zn (d[(i+j) / 2]!);have l70a:=S1.out.ld R (by omega) P (q) (by omega)
      have l70b:=S1.out.ld R (by omega) P ((i+j) / 2) (by omega)
      rw[<- hx70] at l70a;rw[<- hy70] at l70b;have hc70:=S1.out.cmp HC.out (by omega) x70 y70
      have hv70:¬cf x70 y70<0:=by rw[hx70,hy70];exact of_decide_eq_false hL
      have hd70:decide (cf x70 y70<0)=false:=decide_eq_false hv70;clear hx70 hy70;go_wp2_with fail
      go_quiet_grown (first | (go_at_fn g;refine Calls.grown_of (hc70 _ _)))
      have S2:Aside (SWK enc k w0 blk off d (grow (wr.drewN nq) osq)):=S1.out.grown nq osq;clear l70a l70b hc70 S1;generalize grow (wr.drewN nq) osq=w2 at S2 ⊢;clear nq osq;go_wp2;go_roundg (j - ((i+j) / 2+1))
      case measure=>omega
      case rel =>
       have hh:loS (ltOf cf) d[mid+m - ((i+j) / 2+1)]! d[(i+j) / 2+1 - 1]! = false:=by rw[show mid+m - ((i+j) / 2+1)=q by omega,Nat.add_sub_cancel];exact lx.out.trans hL
       exact⟨(i+j) / 2+1,j,by go_num,rfl,by omega,by omega,hj,Nat.le_refl _,S2,⟨Or.inr hh,HI.out.2⟩⟩
    | true =>
      have ea71:((q:Int)).toNat=q:=by omega
      have pa71:(0:Int)<=(q:Int):=by omega
      have ba71:(q:Int)<(d.size:Int):=by omega
      have ra71:IntKind.i64.wrap ((q:Int))=(q:Int):=by rw[IntKind.wrap_i64];omega
      have ec71:(((i:Int)+(j:Int)) / 2).toNat=(i+j) / 2:=by omega
      have pc71:(0:Int)<=((i:Int)+(j:Int)) / 2:=by omega
      have bc71:((i:Int)+(j:Int)) / 2<(d.size:Int):=by omega
      have rc71:IntKind.i64.wrap (((i:Int)+(j:Int)) / 2)=((i:Int)+(j:Int)) / 2:=by rw[IntKind.wrap_i64];omega
      obtain⟨x71,hx71⟩:=Zn (d[q]!);obtain⟨y71,hy71⟩:=Zn (d[(i+j) / 2]!);have l71a:=S1.out.ld R (by omega) P (q) (by omega)
      have l71b:=S1.out.ld R (by omega) P ((i+j) / 2) (by omega)
      rw[<- hx71] at l71a;rw[<- hy71] at l71b;have hc71:=S1.out.cmp HC.out (by omega) x71 y71
      have hv71:cf x71 y71<0:=by rw[hx71,hy71];exact of_decide_eq_true hL
      have hd71:decide (cf x71 y71<0)=true:=decide_eq_true hv71;clear hx71 hy71;go_wp2_with fail
      go_quiet_grown (first | (go_at_fn g;refine Calls.grown_of (hc71 _ _)))
      have S2:Aside (SWK enc k w0 blk off d (grow (wr.drewN nq) osq)):=S1.out.grown nq osq;clear l71a l71b hc71 S1;generalize grow (wr.drewN nq) osq=w2 at S2 ⊢;clear nq osq;go_wp2;go_roundg ((i+j) / 2 - i)
      case measure=>omega
      case rel=>exact⟨i,(i+j) / 2,rfl,by go_num,by omega,by omega,by omega,Nat.le_refl _,S2,⟨HI.out.1,Or.inr (by rw[show mid+m - 1 - (i+j) / 2=q by omega];exact lx.out.trans hL)⟩⟩
   ·obtain rfl:i=j:=by omega
    have PT:=Zq (ads (n:=mid+m) HO.out SL0.out SR0.out (by omega) (by omega) (by omega:a<=i) (by omega) (by omega) (by omega) (o1.out.imp id (by omega)) (o2.out.imp id (by omega)) HI.out.1 HI.out.2)
    obtain⟨e,he1,he2⟩:∃ e:Nat,e+i<=mid+m/\mid+m<=e+i:=⟨mid+m - i,by omega,by omega⟩
    have ze:(mid:Int)+(m:Int) - (i:Int)=(e:Int):=by omega
    have PT2:Hid (Split (ltOf cf) a i m e b d):=by rw[show e=mid+m - i by omega];exact PT.out
    clear PT HI o1 o2;go_upto_region 39 with fail
    go_cut [185] from 149 (fun s wc=>∃ v:Bool,s=.bool v/\wc=wr/\Hid (v=true->i<m/\m<e)/\Hid (v=false->(i=m\/e=m)))
    case first =>
     by_cases g1:i<m
     ·have g1z:(i:Int)<(m:Int):=by omega
      by_cases g2:m<e
      ·have g2z:(m:Int)<(e:Int):=by omega
       go_wp2_with fail;go_meet
       case rel=>exact⟨true,rfl,rfl,fun _=>⟨g1,g2⟩,fun h=>by cases h⟩
      ·have g2z:¬(m:Int)<(e:Int):=by omega
       go_wp2_with fail;go_meet
       case rel=>exact⟨false,rfl,rfl,(fun h=>by cases h),fun _=>by omega⟩
     ·have g1z:¬(i:Int)<(m:Int):=by omega
      go_wp2_with fail;go_meet
      case rel=>exact⟨false,rfl,rfl,(fun h=>by cases h),fun _=>by omega⟩
    case rest =>
     obtain⟨v,rfl,rfl,vy,vn⟩:=hcut
     go_upto_if 185 with fail
     go_cut [] from 149 (fun wc=>∃ d1:Array Nat,Aside (SWK enc k w0 blk off d1 wc)/\Hid (PermIn a b d d1)/\Hid (∀ p:Nat,d1[p]! = d[zco i m e p]!))
     case first =>
      cases v with
      | true =>
        obtain⟨g1,g2⟩:=vy.out rfl;have hc:=aii L enc g cb blk off cap i m e d0 d w0 wc R (by omega) S1.out g1 g2 (by omega) hsz
        clear S1;go_wp2_with (go_at_fn 151;refine hc.mono ?_;rintro r w1 ⟨rfl,d1,S2,p1,r1⟩)
        go_meet
        case rel=>exact⟨d1,S2,permIn_mono _ _ _ _ _ _ (by omega) (by omega) hb p1,r1⟩
      | false =>
        replace vn:=Zq (vn.out rfl);go_wp2_with fail;go_meet
        case rel =>
         refine⟨d,S1,permIn_refl _ _ _,fun p=>?_⟩
         rcases vn.out with h | h
         ·rw[h,zsy _ _ _ (by omega)]
         ·rw[h,zpa]
     case rest =>
      clear S1;obtain⟨d1,S1,P1,R1⟩:=hcut;clear vy vn;have hd1:d1.size=d.size:=P1.out.1;have Q:=Zq (znd HO.out PT2.out SL0.out SR0.out R1.out);have emid:i+(e - m)=mid:=by omega
      have f1:Hid (∀ p:Nat,p<i->d1[p]! = d[p]!):=fun p hp=>by rw[R1.out,zih (Or.inl hp) (by omega) (by omega)]
      have f2:Hid (∀ p:Nat,i<=p->p<mid->d1[p]! = d[m+(p - i)]!):=fun p h1 h2=>by rw[R1.out,zkw h1 (by omega)]
      have f3:Hid (∀ p:Nat,mid<=p->p<e->d1[p]! = d[p - (e - m)]!):=fun p h1 h2=>by rw[R1.out,zja (by omega) h2]
      have f4:Hid (∀ p:Nat,e<=p->d1[p]! = d[p]!):=fun p hp=>by rw[R1.out,zih (Or.inr hp) (by omega) (by omega)]
      rw[emid] at Q;replace emid:=Zq emid;go_upto_region 41 with fail
      go_cut [199] from 149 (fun s wx=>∃ v:Bool,s=.bool v/\wx=wc/\Hid (v=true->a<i/\i<mid)/\Hid (v=false->(i=a\/i=mid)))
      case first =>
       by_cases g1:a<i
       ·have g1z:(a:Int)<(i:Int):=by omega
        by_cases g2:i<mid
        ·have g2z:(i:Int)<(mid:Int):=by omega
         go_wp2_with fail;go_meet
         case rel=>exact⟨true,rfl,rfl,fun _=>⟨g1,g2⟩,fun h=>by cases h⟩
        ·have g2z:¬(i:Int)<(mid:Int):=by omega
         go_wp2_with fail;go_meet
         case rel=>exact⟨false,rfl,rfl,(fun h=>by cases h),fun _=>by omega⟩
       ·have g1z:¬(a:Int)<(i:Int):=by omega
        go_wp2_with fail;go_meet
        case rel=>exact⟨false,rfl,rfl,(fun h=>by cases h),fun _=>by omega⟩
      case rest =>
       obtain⟨v,rfl,rfl,vy,vn⟩:=hcut
       go_upto_if 199 with fail
       go_cut [] from 149 (fun wx=>∃ d2:Array Nat,Aside (SWK enc k w0 blk off d2 wx)/\Hid (PermIn a mid d1 d2)/\Hid (SortedIn (loS (ltOf cf)) a mid d2))
       case first =>
        cases v with
        | true =>
          obtain⟨g1,g2⟩:=vy.out rfl;have hc:=IH.out a i mid d1 _ (by omega) (by omega) S1.out g1 g2 (by omega) (by omega) Q.out.one Q.out.two (fun x y h1 h2 h3 h4=>by rw[f1.out x h2,f2.out y h3 h4];exact CR.out _ _ h1 (by omega) (by omega) (by omega))
          rw[hd1] at hc;clear S1;go_wp2_with (go_at_fn 141;refine hc.mono ?_;rintro r w1 ⟨rfl,d2,S2,p2,s2⟩)
          go_meet
          case rel=>exact⟨d2,S2,p2,s2⟩
        | false =>
          replace vn:=Zq (vn.out rfl);go_wp2_with fail;go_meet
          case rel =>
           refine⟨d1,S1,permIn_refl _ _ _,?_⟩;rcases vn.out with h | h
           ·have:=Q.out.two;rwa [h] at this
           ·have:=Q.out.one;rwa [h] at this
       case rest =>
        clear S1;obtain⟨d2,S1,P2,T2⟩:=hcut;clear vy vn;have hd2:d2.size=d1.size:=P2.out.1;have f5:Hid (∀ p:Nat,mid<=p->d2[p]! = d1[p]!):=fun p hp=>P2.out.2.1 p (Or.inr hp)
        have fin:Hid (∀ d3:Array Nat,PermIn mid b d2 d3->SortedIn (loS (ltOf cf)) mid b d3->PermIn a b d d3/\SortedIn (loS (ltOf cf)) a b d3):=fun d3 p3 t3=>by
         have J:=agn (by omega) (by omega) (by omega) Q.out.apart P2.out T2.out p3 t3
         exact⟨permIn_trans _ _ _ _ _ P1.out J.1,J.2⟩
        by_cases g1:mid<e
        ·have g1z:(mid:Int)<(e:Int):=by omega
         by_cases g2:e<b
         ·have g2z:(e:Int)<(b:Int):=by omega
          have hc:=IH.out mid e b d2 _ (by omega) (by omega) S1.out g1 g2 (by omega) (by omega) (fun x y h1 h2 h3=>by rw[f5.out x h1,f5.out y (by omega)];exact Q.out.three x y h1 h2 h3) (fun x y h1 h2 h3=>by rw[f5.out x (by omega),f5.out y (by omega)];exact Q.out.four x y h1 h2 h3)
           (fun x y h1 h2 h3 h4=>by rw[f5.out x h1,f5.out y (by omega),f3.out x h1 h2,f4.out y h3];exact CR.out _ _ (by omega) (by omega) (by omega) h4)
          rw[hd2,hd1] at hc;clear S1;go_wp2_with (go_at_fn 141;refine hc.mono ?_;rintro r w1 ⟨rfl,d3,S2,p3,t3⟩)
          go_end0
          exact⟨rfl,d3,S2,fin.out d3 p3 t3⟩
         ·have g2z:¬(e:Int)<(b:Int):=by omega
          go_wp2;go_end0
          exact⟨rfl,d2,S1,fin.out d2 (permIn_refl _ _ _) (fun x y h1 h2 h3=>by rw[f5.out x h1,f5.out y (by omega)];exact Q.out.three x y h1 h2 (by omega))⟩
        ·have g1z:¬(mid:Int)<(e:Int):=by omega
         go_wp2;go_end0
         exact⟨rfl,d2,S1,fin.out d2 (permIn_refl _ _ _) (fun x y h1 h2 h3=>by rw[f5.out x h1,f5.out y (by omega)];exact Q.out.four x y (by omega) h2 h3)⟩
theorem zpe(L:SLy P k)(enc:Nat->List Value)(cf:Nat->Nat->Int)(g:Nat)(cb:Array Value)(hO:SWO (ltOf cf))(blk off cap:Nat)(d0:Array Nat)(w0:World)(eg:∀ args w,(callFunc g args).run P w=.ok (.enter g args) w)(hcmp:CmpLays P g cb enc k cf blk off d0.size w0)(R:RowK enc k w0 blk off d0):∀ N,zrb P k enc cf g cb blk off cap d0 w0 N
 | 0=>fun _ _ _ _ _ h=>absurd h (Nat.not_lt_zero _)
 | N+1=>fun a m b d w hN hs S ham hmb hb hsz hL hR hX=>by
   have ih:=zpe L enc cf g cb hO blk off cap d0 w0 eg hcmp R N
   by_cases h1:m<=a+1
   ·exact ztf L enc cf g cb hO blk off cap a m b d0 d w0 w eg hcmp R hs S (by omega) h1 hmb hb hsz hL hR hX
   ·by_cases h2:b<=m+1
    ·exact zqo L enc cf g cb hO blk off cap a m b d0 d w0 w eg hcmp R hs S (by omega) (by omega) h2 hb hsz hL hR hX
    ·exact zvi L enc cf g cb hO blk off cap a m b d0 d w0 w eg hcmp R hs S (by omega) (by omega) hb hsz hL hR hX (fun a' m' b' d' w' h'=>ih a' m' b' d' w' (by omega))
end Go.Proofs.YtcogiogjpbkeaaaGreatDoor
namespace Go.Proofs.YtcogiogjpbkeaaaGreatDoor
open Go.Shelf Go.RowKit Go.Lib Go.Sort
variable{P:Program}{k:Nat}
theorem zxd(L:SLy P k)(LI:SlLaysF0.n20 P zuo)(enc:Nat->List Value)(cf:Nat->Nat->Int)(g:Nat)(cb:Array Value)(hO:SWO (ltOf cf))(blk off cap a b:Nat)(d0 d:Array Nat)(w0 w:World)
  (eg:∀ args w,(callFunc g args).run P w=.ok (.enter g args) w) (hcmp:CmpLays P g cb enc k cf blk off d0.size w0) (R:RowK enc k w0 blk off d0) (hs:d0.size=d.size) (S:SWK enc k w0 blk off d w) (hab:a<=b) (hb:b<=d.size) (hsz:d.size<4611686018427387904)
  (hd:∀ p q,a<=p->p<q->q<b->d[p]! < d[q]!) :
  Calls P 140 #[.slice (some ⟨blk,off,none⟩) d.size cap,.int .i64 a,.int .i64 b,.func (.func g) #[] cb] w fun e w'=>e=.returned (.tuple #[])/\∃ dk:Array Nat,Aside (SWK enc k w0 blk off dk w')/\PermIn a b d dk/\SortedIn (loS (ltOf cf)) a b dk:=by
 have hp:=aas hO a b d hab hb hd;have hC:CmpLays P g cb enc k cf blk off d.size w:=fun m os dk hdk x y=>by
  obtain⟨n0,os0,rfl⟩:=S;rw[sortWorldK_on enc k w0 blk off n0 m d dk os0 os R.hblk hdk];exact hcmp _ _ dk (by omega) x y
 have h:=AnyQ.insertionSortCmpFunc LI k L.aE L.zE enc R.hk R.h1 cf g cb blk off cap a b d w eg hC (S.holds R.hblk R.hH hs.symm) (S.lt R.hblk) hab hb hsz;refine Calls.mono (show Calls P 140 _ w _ from h) ?_
 rintro e w' ⟨rfl,n,os,rfl⟩;exact⟨rfl,_,S.on R.hblk n _ os hp.1.1,hp.1,hp.2⟩
set_option maxHeartbeats 16000000 in
set_option maxRecDepth 1000000 in
theorem zvk(L:SLy P k)(LI:SlLaysF0.n20 P zuo)(enc:Nat->List Value)(cf:Nat->Nat->Int)(g:Nat)(cb:Array Value)(hO:SWO (ltOf cf))(blk off cap:Nat)(d:Array Nat)(w:World)
  (eg:∀ args w,(callFunc g args).run P w=.ok (.enter g args) w) (hcmp:CmpLays P g cb enc k cf blk off d.size w) (R:RowK enc k w blk off d) (hsz:d.size<1152921504606846976) (hid:∀ p,p<d.size->d[p]! = p) :
  Calls P 114 #[.slice (some ⟨blk,off,none⟩) d.size cap,.int .i64 d.size,.func (.func g) #[] cb] w fun e w'=>e=.returned (.tuple #[])/\∃ dk:Array Nat,Aside (SWK enc k w blk off dk w')/\PermIn 0 d.size d dk/\SortedIn (loS (ltOf cf)) 0 d.size dk:=by
 have mixed:=L.mixed;have t0:=L.t0;have a0:=L.a0;have z0:=L.z0;have v0:=L.v0;have t3:=L.t3;have a3:=L.a3;have z3:=L.z3;have v3:=L.v3;have t4:=L.t4;have a4:=L.a4;have z4:=L.z4;have v4:=L.v4;have t22:=L.t22;have a22:=L.a22;have z22:=L.z22;have v22:=L.v22;have t25:=L.t25;have a25:=L.a25;have z25:=L.z25;have v25:=L.v25;have aE:=L.aE;have zE:=L.zE;have FG:=L.fStable;have eM:∀ args w,(callFunc 141 args).run P w=.ok (.enter 141 args) w:=enters_of L.fMerge (by kernel_rfl) rfl
 have eI:∀ args w,(callFunc 140 args).run P w=.ok (.enter 140 args) w:=enters_of L.fIns (by kernel_rfl) rfl
 have HC:Aside _:=hcmp;have HO:=Zq hO;have S0:Aside (SWK enc k w blk off d w):=SWK.start R.hH;have H0:=Zq hid;have MG:=Zq (zpe L enc cf g cb hO blk off cap d w eg hcmp R);clear hcmp hO hid;obtain⟨n,hn1,hn2⟩:∃ n:Nat,n<=d.size/\d.size<=n:=⟨d.size,Nat.le_refl _,Nat.le_refl _⟩
 go_enter FG,Tryz.ntmps114
 go_wp2
 go_loopg [7,8] d.size (fun gx s7 s8 wr=>∃ (a:Nat) (dk:Array Nat),s7=.int .i64 a/\s8=.int .i64 ((a:Int)+20)/\a<=d.size/\d.size - a<=gx/\dk.size=d.size/\Aside (SWK enc k w blk off dk wr)/\Hid (PermIn 0 d.size d dk)/\Hid (Pre (ltOf cf) 20 dk a)/\Hid (∀ p:Nat,a<=p->p<d.size->dk[p]! = p))
 case atStart=>exact⟨0,d,rfl,rfl,by omega,by omega,rfl,S0,permIn_refl _ _ _,Pre.zero,fun p h1 h2=>H0.out p h2⟩
 case round =>
  clear S0;obtain⟨a,dk,rfl,rfl,ha,hgx,hds,S1,P1,Q1,T1⟩:=hrel
  by_cases hlt:a+20<=d.size
  ·have hltz:(a:Int)+20<=(d.size:Int):=by omega
   have hc:=zxd L LI enc cf g cb HO.out blk off cap a (a+20) d dk w wr eg HC.out R hds.symm S1.out (by omega) (by omega) (by omega) (fun p q h1 h2 h3=>by rw[T1.out p h1 (by omega),T1.out q (by omega) (by omega)];exact h2)
   rw[hds,show((a+20:Nat):Int)=(a:Int)+20 by omega] at hc
   clear S1;go_wp2_with (go_at_fn 140;refine hc.mono ?_;rintro e w1 ⟨rfl,d1,S2,p1,s1⟩)
   go_roundg (d.size - (a+20))
   case measure=>omega
   case rel =>
    have hd1:d1.size=dk.size:=p1.1;refine⟨a+20,d1,by go_num,by first | go_num | (congr 1;omega),hlt,Nat.le_refl _,hd1.trans hds,S2,permIn_trans _ _ _ _ _ P1.out (permIn_mono _ _ _ _ _ _ (Nat.zero_le _) hlt (by omega) p1),?_,fun p h1 h2=>?_⟩
    ·exact(Q1.out.congr fun p hp=>p1.2.1 p (Or.inl hp)).more ⟨s1,permIn_all dk d1 a (a+20) (fun v=>a<=v/\v<a+20) (by omega) p1 fun p h1 h2=>by rw[T1.out p h1 (by omega)];exact⟨h1,h2⟩⟩
    ·rw[p1.2.1 p (Or.inr h1)]
     exact T1.out p (by omega) h2
  ·have hltz:¬(a:Int)+20<=(d.size:Int):=by omega
   have hc:=zxd L LI enc cf g cb HO.out blk off cap a d.size d dk w wr eg HC.out R hds.symm S1.out (by omega) (by omega) (by omega) (fun p q h1 h2 h3=>by rw[T1.out p h1 (by omega),T1.out q (by omega) (by omega)];exact h2)
   rw[hds] at hc;clear S1;go_wp2_with (go_at_fn 140;refine hc.mono ?_;rintro e w1 ⟨rfl,d1,S2,p1,s1⟩)
   have hd1:d1.size=d.size:=p1.1.trans hds;have P2:Hid (PermIn 0 d.size d d1):=permIn_trans _ _ _ _ _ P1.out (permIn_mono _ _ _ _ _ _ (Nat.zero_le _) (Nat.le_refl _) (by omega) p1)
   have G2:Hid (zfw (ltOf cf) 20 d.size d1 0):=by
    refine(Q1.out.congr fun p hp=>p1.2.1 p (Or.inl hp)).close ?_ ha
    rcases Nat.lt_or_ge a d.size with h | h
    ·exact .last h (by omega) ⟨s1,permIn_all dk d1 a d.size (fun v=>a<=v/\v<d.size) (by omega) p1 fun p h1 h2=>by rw[T1.out p h1 (by omega)];exact⟨h1,h2⟩⟩
    ·exact .nil h
   clear P1 Q1 T1;replace p1:=Zq p1;replace s1:=Zq s1
   go_loopg [6] d.size (fun gx s6 wr=>∃ (bs:Nat) (dk:Array Nat),s6=.int .i64 bs/\20<=bs/\bs<=2 * d.size+20/\d.size - bs<=gx/\dk.size=d.size/\Aside (SWK enc k w blk off dk wr)/\Hid (PermIn 0 d.size d dk)/\Hid (zfw (ltOf cf) bs d.size dk 0))
   case atStart=>exact⟨20,d1,rfl,by omega,by omega,by omega,hd1,S2,P2,G2⟩
   case round =>
    clear S2 P2 G2 p1 s1 hds hgx ha hltz hlt;obtain⟨bs,dk,rfl,hb1,hb2,hgx,hds,S1,P1,G1⟩:=hrel
    by_cases hlt:bs<d.size
    ·have hltz:(bs:Int)<(d.size:Int):=by omega
     go_wp2
     go_loopg [7,8] d.size (fun gy s7 s8 wr=>∃ (a:Nat) (dk:Array Nat),s7=.int .i64 a/\s8=.int .i64 ((a:Int)+2 * (bs:Int))/\a<=d.size/\d.size - a<=gy/\dk.size=d.size/\Aside (SWK enc k w blk off dk wr)/\Hid (PermIn 0 d.size d dk)/\Hid (Pre (ltOf cf) (2 * bs) dk a)/\Hid (zfw (ltOf cf) bs d.size dk a))
     case atStart=>exact⟨0,dk,rfl,by first | go_num | (congr 1;omega),by omega,by omega,hds,S1,P1,Pre.zero,G1⟩
     case round =>
      clear S1 P1 G1 hds;obtain⟨a,dk,rfl,rfl,ha,hgy,hds,S1,P1,Q1,G1⟩:=hrel
      by_cases hl2:a+2 * bs<=d.size
      ·have hl2z:(a:Int)+2 * (bs:Int)<=(d.size:Int):=by omega
       have tw:=Zq (G1.out.two (by omega) hl2)
       have hc:=MG.out (d.size+1) a (a+bs) (a+2 * bs) dk wr (by omega) hds.symm S1.out (by omega) (by omega) (by omega) (by omega) tw.out.1.1 tw.out.2.1.1 (tw.out.1.cross tw.out.2.1)
       rw[hds,show((a+bs:Nat):Int)=(a:Int)+(bs:Int) by omega,show((a+2 * bs:Nat):Int)=(a:Int)+2 * (bs:Int) by omega] at hc
       clear S1;go_wp2_with (go_at_fn 141;refine hc.mono ?_;rintro e w1 ⟨rfl,d1,S2,p1,s1⟩)
       go_roundg (d.size - (a+2 * bs))
       case measure=>omega
       case rel =>
        have hd1:d1.size=dk.size:=p1.1;refine⟨a+2 * bs,d1,by first | go_num | (congr 1;omega),by first | go_num | (congr 1;omega),hl2,Nat.le_refl _,hd1.trans hds,S2,permIn_trans _ _ _ _ _ P1.out (permIn_mono _ _ _ _ _ _ (Nat.zero_le _) hl2 (by omega) p1),?_,?_⟩
        ·exact(Q1.out.congr fun p hp=>p1.2.1 p (Or.inl hp)).more (tw.out.1.merged tw.out.2.1 (by omega) (by omega) (by omega) p1 s1)
        ·exact tw.out.2.2.congr fun p h1 h2=>p1.2.1 p (Or.inr h1)
      ·have hl2z:¬(a:Int)+2 * (bs:Int)<=(d.size:Int):=by omega
       by_cases hl3:a+bs<d.size
       ·have hl3z:(a:Int)+(bs:Int)<(d.size:Int):=by omega
        have tw:=Zq (G1.out.rest hl3 (by omega))
        have hc:=MG.out (d.size+1) a (a+bs) d.size dk wr (by omega) hds.symm S1.out (by omega) (by omega) (by omega) (by omega) tw.out.1.1 tw.out.2.1 (tw.out.1.cross tw.out.2)
        rw[hds,show((a+bs:Nat):Int)=(a:Int)+(bs:Int) by omega] at hc
        clear S1;go_wp2_with (go_at_fn 141;refine hc.mono ?_;rintro e w1 ⟨rfl,d1,S2,p1,s1⟩)
        go_roundg (d.size - bs * 2)
        case measure=>omega
        case rel =>
         have hd1:d1.size=dk.size:=p1.1;refine⟨bs * 2,d1,by first | go_num | (congr 1;omega),by omega,by omega,Nat.le_refl _,hd1.trans hds,S2,permIn_trans _ _ _ _ _ P1.out (permIn_mono _ _ _ _ _ _ (Nat.zero_le _) (Nat.le_refl _) (by omega) p1),?_⟩
         rw[show bs * 2=2 * bs by omega]
         exact(Q1.out.congr fun p hp=>p1.2.1 p (Or.inl hp)).close (.last (by omega) (by omega) (tw.out.1.merged tw.out.2 (by omega) (by omega) (by omega) p1 s1)) ha
       ·have hl3z:¬(a:Int)+(bs:Int)<(d.size:Int):=by omega
        go_wp2;go_roundg (d.size - bs * 2)
        case measure=>omega
        case rel =>
         refine⟨bs * 2,dk,by first | go_num | (congr 1;omega),by omega,by omega,Nat.le_refl _,hds,S1,P1,?_⟩
         rw[show bs * 2=2 * bs by omega]
         exact Q1.out.close (G1.out.wide (by omega)) ha
    ·have hltz:¬(bs:Int)<(d.size:Int):=by omega
     go_wp2;go_end0
     exact⟨rfl,dk,S1,P1.out,G1.out.whole (by omega)⟩
end Go.Proofs.YtcogiogjpbkeaaaGreatDoor
