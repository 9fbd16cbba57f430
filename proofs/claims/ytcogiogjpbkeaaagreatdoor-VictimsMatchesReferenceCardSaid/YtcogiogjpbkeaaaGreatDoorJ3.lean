/-
  The functions of stage 1 in this cut: vec.Zero, Add, Sub, Fits, Wrong; the reference's Fits, Same, Wrong. Conditions: at most 1048576 rows and amounts.
-/
import Derived.Test.YtcogiogjpbkeaaaGreatDoorJ0
import Derived.Test.YtcogiogjpbkeaaaGreatDoorJ2
import Derived.Laws.Entries
import Derived.IntWalk
import Derived.Laws.Bits64
import Derived.Deep.AppendLies
namespace Go.Proofs.YtcogiogjpbkeaaaGreatDoor.V12
open Go.RowKit
def hi(n:Int):Int:=n / 4294967296
def lo(n:Int):Int:=n % 4294967296
theorem zsg(n:Int):0<=lo n:=by unfold lo;omega
theorem zwm(n:Int):lo n<=4294967295:=by unfold lo;omega
theorem zzx(n:Int):bits .and .i64 n 4294967295=lo n:=by
 have e1:(BitVec.ofInt 64 n &&& BitVec.ofInt 64 4294967295).toNat=(lo n).toNat:=by
  rw[BitVec.toNat_and,BitVec.toNat_ofInt,show(BitVec.ofInt 64 4294967295).toNat=2 ^ 32 - 1 from by decide,Nat.and_two_pow_sub_one_eq_mod]
  unfold lo;omega
 show IntKind.i64.wrap ((BitVec.ofInt 64 n &&& BitVec.ofInt 64 4294967295).toNat:Int)=lo n
 have:=zsg n;have:=zwm n;rw[e1,Int.toNat_of_nonneg (zsg n),IntWalk.i64_in _ (by omega)]
theorem akc(n:Int):n / 4294967296=hi n:=rfl
theorem akb(a b:Int):hi a+hi b+(lo a+lo b) / 4294967296=hi (a+b):=by unfold hi lo;omega
theorem akk(a b:Int):lo (lo a+lo b)=lo (a+b):=by unfold lo;omega
theorem aml(a:Int):hi a * 4294967296+lo a=a:=by unfold hi lo;omega
def sumTo:Nat->(Nat->Int)->Int
 | 0,_=>0
 | k+1,f=>sumTo k f+f k
def zfx(n:Int):Int:=n % 18446744073709551616
def zlp(n:Int):Int:=n / 18446744073709551616
theorem zwl(n:Int):0<=zfx n:=by unfold zfx;omega
def inR(n:Int):Bool:=decide (-9223372036854775808<=n/\n<=9223372036854775807)
theorem zti{R:Nat}{f:Nat->Int}(h:∀ k,k<R->-9223372036854775808<=f k/\f k<=9223372036854775807):-9223372036854775808 * (R:Int)<=sumTo R f/\sumTo R f<=9223372036854775808 * (R:Int):=by
 induction R with
 | zero=>simp[sumTo]
 | succ R ih =>
   obtain⟨h1,h2⟩:=ih fun k hk=>h k (by omega)
   obtain⟨h3,h4⟩:=h R (by omega)
   simp only[sumTo];omega
theorem agf{R:Nat}{n:Int}(h:-9223372036854775808 * (R:Int)<=n/\n<=9223372036854775808 * (R:Int))(hR:R<=1048576):-1048576<=zlp n/\zlp n<=1048576:=by unfold zlp;omega
theorem zyj(s v:Int):(zfx s+zfx v) % 18446744073709551616=zfx (s+v):=by unfold zfx;omega
theorem zyd{s v:Int}(h1:-9223372036854775808<=v)(h2:v<=9223372036854775807):zlp s+(v / 9223372036854775808+(zfx s+zfx v) / 18446744073709551616)=zlp (s+v):=by
 unfold zlp zfx;omega
def carry(s v:Int):Int:=(zfx s+zfx v) / 18446744073709551616
theorem aad(s v:Int):0<=carry s v:=by unfold carry zfx;omega
theorem aac(s v:Int):carry s v<=1:=by unfold carry zfx;omega
theorem zpm(n:Int):wrap64 (zfx n)=wrap64 n:=by unfold wrap64 zfx;omega
theorem ael(n:Int):IntKind.u64.wrap n=zfx n:=by rw[IntKind.wrap_u64];rfl
theorem akg(n:Int):(zlp n == wrap64 (zfx n) / 9223372036854775808)=decide (zlp n=wrap64 n / 9223372036854775808):=by
 rw[zpm]
 by_cases h:zlp n=wrap64 n / 9223372036854775808
 ·rw[beq_iff_eq.2 h,decide_eq_true h]
 ·rw[beq_eq_false_iff_ne.2 h,decide_eq_false h]
theorem akf(n:Int):decide (zlp n=wrap64 n / 9223372036854775808)=inR n:=by
 unfold zlp inR wrap64;rw[decide_eq_decide];omega
theorem amg(x y:Int)(hx:0<=x)(hy:0<=y)(w:World):
  (callFunc 144 #[.int .u64 x,.int .u64 y,.int .u64 0]).run Tryz.prog w =
   .ok (.value (.tuple #[.int .u64 ((x+y) % 18446744073709551616),.int .u64 ((x+y) / 18446744073709551616)])) w:=by
 rw[run_callFunc_extern Tryz.func144 (by kernel_rfl) (by kernel_rfl) (by kernel_rfl) (e:=add64Entry) (by kernel_rfl),run_add64 x y 0 hx hy (by omega) (by omega)]
 simp only[Result.andThen,Int.add_zero]
def zft(x y:Int):Bool:=decide (y<=x/\x - y<=9223372036854775807)
theorem adz{x y:Int}(x1:-9223372036854775808<=x)(x2:x<=9223372036854775807)(y1:-9223372036854775808<=y)(y2:y<=9223372036854775807)(h:y<=x):
  Value.bool (decide (0<=wrap64 (x - y)))=.bool (zft x y):=by
 unfold zft wrap64
 congr 1
 rw[decide_eq_decide];omega
theorem aea{x y:Int}(h:x<y):Value.bool false=.bool (zft x y):=by
 unfold zft
 congr 1
 symm
 rw[decide_eq_false_iff_not];omega
theorem zmc{k:IntKind}{a b:Int}(h:a=b):Value.int k a=.int k b:=by rw[h]
theorem aht{a b c d:Value}(h1:a=c)(h2:b=d):Ending.returned (.tuple #[a,b])=.returned (.tuple #[c,d]):=by rw[h1,h2]
theorem aeb(x y:Int)(w:World)(hx:-9223372036854775808<=x/\x<=9223372036854775807)(hy:-9223372036854775808<=y/\y<=9223372036854775807):
  Calls Tryz.prog 161 #[.int .i64 x,.int .i64 y] w fun e w'=>e=.returned (.tuple #[.int .i64 (wrap64 (x - y)),.bool (zft x y)])/\w'=w:=by
 obtain⟨x1,x2⟩:=hx;obtain⟨y1,y2⟩:=hy
 by_cases h:y<=x
 ·go_enter Tryz.func161,Tryz.ntmps161
  go_wp2;go_ret2
  exact⟨aht rfl (adz x1 x2 y1 y2 h),rfl⟩
 ·go_enter Tryz.func161,Tryz.ntmps161
  go_wp2;go_ret2
  exact⟨aht rfl (aea h),rfl⟩
def zbg(x:Int):Bool:=decide (x<0\/1099511627776<x)
theorem ajr{x:Int}(h:x<0):Ending.returned (.bool true)=.returned (.bool (zbg x)):=by
 unfold zbg;rw[decide_eq_true (Or.inl h)]
theorem ajq{x:Int}(h:0<=x):Ending.returned (.bool (decide (1099511627776<x)))=.returned (.bool (zbg x)):=by
 unfold zbg
 congr 2
 rw[decide_eq_decide];omega
theorem zny(x:Int)(w:World):
  Calls Tryz.prog 123 #[.int .i64 x] w fun e w'=>e=.returned (.bool (zbg x))/\w'=w:=by
 by_cases h:x<0
 ·go_enter Tryz.func123,Tryz.ntmps123
  go_wp2;go_ret
  exact⟨ajr h,rfl⟩
 ·go_enter Tryz.func123,Tryz.ntmps123
  go_wp2;go_ret
  exact⟨ajq h,rfl⟩
theorem amo(n:Int)(w:World):
  Calls Tryz.prog 78 #[.int .i64 n] w fun e w'=>e=.returned (.agg #[.int .i64 (hi n),.int .i64 (lo n)])/\Below w.heap.size w w':=by
 go_enter Tryz.func78,Tryz.ntmps78
 go_wp2;refine bodyPost_ret (v:=.agg #[.int .i64 (hi n),.int .i64 (lo n)]) (by simp[results,Tryz.results78,go_sem,zzx,akc]) rfl ⟨rfl,?_⟩
 exact(Below.refl _ _).alloc (Nat.le_refl _) _
theorem aho(a b:Int)(w:World)(h1:-1152921504606846976<=hi a)(h2:hi a<=1152921504606846976)(h3:-1152921504606846976<=hi b)(h4:hi b<=1152921504606846976):
  Calls Tryz.prog 79 #[.agg #[.int .i64 (hi a),.int .i64 (lo a)],.agg #[.int .i64 (hi b),.int .i64 (lo b)]] w fun e w'=>e=.returned (.agg #[.int .i64 (hi (a+b)),.int .i64 (lo (a+b))])/\Below w.heap.size w w':=by
 have l1:=zsg a;have l2:=zwm a;have l3:=zsg b;have l4:=zwm b
 go_enter Tryz.func79,Tryz.ntmps79
 go_wp2;refine bodyPost_ret (v:=.agg #[.int .i64 (hi (a+b)),.int .i64 (lo (a+b))]) (by simp[results,Tryz.results79,go_sem,zzx,akb,akk]) rfl ⟨rfl,?_⟩
 exact(((Below.refl _ _).alloc (Nat.le_refl _) _).alloc (by simp) _).alloc (by simp;omega) _
theorem zzr(a:Int)(w:World)(h1:-9223372036854775808<=a)(h2:a<=9223372036854775807):
  Calls Tryz.prog 80 #[.agg #[.int .i64 (hi a),.int .i64 (lo a)]] w fun e w'=>e=.returned (.tuple #[.int .i64 a,.bool true])/\Below w.heap.size w w':=by
 have l1:=zsg a;have l2:=zwm a;have g1:-2147483648<=hi a:=by unfold hi;omega
 have g2:hi a<=2147483647:=by unfold hi;omega
 go_enter Tryz.func80,Tryz.ntmps80
 go_wp2;go_ret2
 exact⟨aht (zmc (aml a)) rfl,(Below.refl _ _).alloc (Nat.le_refl _) _⟩
theorem aep(a:Int)(w:World)(h1:a < -9223372036854775808):
  Calls Tryz.prog 80 #[.agg #[.int .i64 (hi a),.int .i64 (lo a)]] w fun e w'=>e=.returned (.tuple #[.int .i64 0,.bool false])/\Below w.heap.size w w':=by
 have g1:hi a < -2147483648:=by unfold hi;omega
 go_enter Tryz.func80,Tryz.ntmps80
 go_wp2;go_ret2
 exact⟨rfl,(Below.refl _ _).alloc (Nat.le_refl _) _⟩
theorem aeo(a:Int)(w:World)(h1:9223372036854775807<a):
  Calls Tryz.prog 80 #[.agg #[.int .i64 (hi a),.int .i64 (lo a)]] w fun e w'=>e=.returned (.tuple #[.int .i64 0,.bool false])/\Below w.heap.size w w':=by
 have g1:2147483647<hi a:=by unfold hi;omega
 have g2:¬hi a < -2147483648:=by unfold hi;omega
 go_enter Tryz.func80,Tryz.ntmps80
 go_wp2;go_ret2
 exact⟨rfl,(Below.refl _ _).alloc (Nat.le_refl _) _⟩
theorem aer(a:Int)(w:World)(h:¬(-9223372036854775808<=a/\a<=9223372036854775807)):
  Calls Tryz.prog 80 #[.agg #[.int .i64 (hi a),.int .i64 (lo a)]] w fun e w'=>e=.returned (.tuple #[.int .i64 0,.bool false])/\Below w.heap.size w w':=by
 by_cases h1:a < -9223372036854775808
 ·exact aep a w h1
 ·exact aeo a w (by omega)
structure Rds(w:World)(L:Option Addr)(R:Nat)(A:Nat->Option Addr)(len C:Nat->Nat)(Z:Nat->Nat->Int):Prop where
 small:R<=9223372036854775807
 adr:0<R->∃ b off,L=some ⟨b,off,none⟩/\∀ j,j<R->w.cell? ⟨b,off+j,none⟩=some (.slice (A j) (len j) (C j))
 row:∀ r,r<R->Rd w (A r) (len r) (Z r)
theorem Rds.below{w w':World}{L R A len C Z}(h:Rds w L R A len C Z)(hb:Below w.heap.size w w'):Rds w' L R A len C Z :=
 ⟨h.small,fun hn=>by
  obtain⟨b,off,e,hc⟩:=h.adr hn
  exact⟨b,off,e,fun j hj=>by rw[hb.cell (p:=⟨b,off+j,none⟩) (World.block_lt_of_cell? _ _ (hc j hj))];exact hc j hj⟩,fun r hr=>(h.row r hr).below hb⟩
theorem Rds.nil(w:World)(L:Option Addr)(A len C Z):Rds w L 0 A len C Z:=⟨by omega,fun h=>absurd h (Nat.lt_irrefl _),fun _ h=>absurd h (Nat.not_lt_zero _)⟩
theorem zhr{w:World}{b n:Nat}{Z:Nat->Int}(h:w.rowIs b 2 n (fun k=>.int .i64 (Z k)))(hn:n<=9223372036854775807)(hr:∀ k,k<n->-9223372036854775808<=Z k/\Z k<=9223372036854775807):Rd w (some ⟨b,0,none⟩) n Z :=
 ⟨hn,hr,fun _=>⟨b,0,rfl,fun j hj=>by rw[Nat.zero_add];exact h.cell hj⟩⟩
def zba(n:Nat)(D:Nat->Int):List Value:=(List.range n).map fun k=>.int .i64 (D k)
theorem zik(n:Nat)(D:Nat->Int):zba n D++[.int .i64 (D n)]=zba (n+1) D:=by simp[zba,List.range_succ]
theorem ack{w:World}{base n:Nat}{v:Value}{D:Nat->Int}(h:w.ownsRow base 2 1 v n (zba n D))(hn:n<=9223372036854775807)(hr:∀ k,k<n->-9223372036854775808<=D k/\D k<=9223372036854775807):
  ∃ A cap,v=.slice A n cap/\Rd w A n D:=by
 rcases h.2 with ⟨rfl,rfl⟩ | ⟨g,cap,cur,rfl,_,hb,_,_,_,ht⟩
 ·exact⟨none,0,rfl,Rd.nil _ _ _⟩
 ·refine⟨some ⟨g,0,none⟩,cap,rfl,hn,hr,fun _=>⟨g,0,rfl,fun j hj=>?_⟩⟩
  have:=h.cells (g:=g) rfl j (.int .i64 (D j)) (by simp[zba,hj])
  rwa [WideShapes.add_plain] at this
def zcm(n:Nat)(Z:Nat->Int)(m:Nat)(Y:Nat->Int):Bool:=decide (n=m/\∀ k,k<n->Z k<=Y k)
def zfq(n:Nat)(Z:Nat->Int)(m:Nat)(Y:Nat->Int):Bool:=decide (n=m/\∀ k,k<n->Z k=Y k)
theorem zwf{n m:Nat}{Z Y:Nat->Int}(h:n≠m):zcm n Z m Y=false:=by simp[zcm,h]
theorem zwd{n m:Nat}{Z Y:Nat->Int}{k:Nat}(hk:k<n)(h:Y k<Z k):zcm n Z m Y=false:=by
 unfold zcm;rw[decide_eq_false_iff_not];intro ⟨_,h2⟩;have:=h2 k hk;omega
theorem zrw{n m:Nat}{Z Y:Nat->Int}(h:n=m)(h2:∀ k,k<n->Z k<=Y k):zcm n Z m Y=true:=by
 unfold zcm;exact decide_eq_true ⟨h,h2⟩
theorem aic{n m:Nat}{Z Y:Nat->Int}(h:n≠m):zfq n Z m Y=false:=by simp[zfq,h]
theorem adm{n m:Nat}{Z Y:Nat->Int}{k:Nat}(hk:k<n)(h:Z k≠Y k):zfq n Z m Y=false:=by
 unfold zfq;rw[decide_eq_false_iff_not];intro ⟨_,h2⟩;exact h (h2 k hk)
theorem adn{n m:Nat}{Z Y:Nat->Int}(h:n=m)(h2:∀ k,k<n->Z k=Y k):zfq n Z m Y=true:=by
 unfold zfq;exact decide_eq_true ⟨h,h2⟩
theorem zsx{a b:Bool}(h:a=b):Ending.returned (.bool a)=.returned (.bool b):=by rw[h]
set_option maxHeartbeats 400000 in
theorem agb(A B:Option Addr)(n m c d:Nat)(Z Y:Nat->Int)(w:World)(h:n≠m):
  Calls Tryz.prog 50 #[.slice A n c,.slice B m d] w fun e w'=>e=.returned (.bool (zcm n Z m Y))/\zbb w w':=by
 go_enter Tryz.func50,Tryz.ntmps50
 go_wp2;go_ret
 exact⟨zsx (zwf h).symm,zbb.refl _⟩
set_option maxHeartbeats 400000 in
theorem afz(A B:Option Addr)(n c d:Nat)(Z Y:Nat->Int)(w:World)(hA:Rd w A n Z)(hB:Rd w B n Y):
  Calls Tryz.prog 50 #[.slice A n c,.slice B n d] w fun e w'=>e=.returned (.bool (zcm n Z n Y))/\zbb w w':=by
 have hn:=hA.small
 go_enter Tryz.func50,Tryz.ntmps50
 go_wp2
 go_loopg [13] n (fun g i wr=>∃ k:Nat,k<=n/\g=n - k/\i=.int .i64 k/\zbb w wr/\Aside (∀ j,j<k->Z j<=Y j))
 case atStart=>exact⟨0,Nat.zero_le _,rfl,rfl,zbb.refl _,fun _ h=>absurd h (Nat.not_lt_zero _)⟩
 case round =>
  obtain⟨k,hk,rfl,rfl,hd,hall⟩:=hrel
  by_cases hlt:k<n
  ·obtain⟨b,off,rfl,ca⟩:=(hA.below hd.below).adr (by omega)
   obtain⟨b',off',rfl,cb⟩:=(hB.below hd.below).adr (by omega)
   have g0:=ca k hlt;have g1:=cb k hlt;clear ca cb hA hB
   by_cases hz:Z k<=Y k
   ·go_wp2
    go_quiet (fail)
    go_wp2;go_roundg (n - (k+1))
    case measure=>omega
    case rel=>exact⟨k+1,hlt,rfl,by go_num,hd.drewN _,fun j hj=>by
     rcases Nat.lt_succ_iff_lt_or_eq.1 hj with h | rfl
     ·exact hall.out j h
     ·exact hz⟩
   ·go_wp2
    go_quiet (fail)
    go_wp2;go_ret
    exact⟨zsx (zwd hlt (by omega)).symm,hd.drewN _⟩
  ·obtain rfl:k=n:=by omega
   go_wp2;go_ret
   exact⟨zsx (zrw rfl hall.out).symm,hd⟩
theorem aam(A B:Option Addr)(n m c d:Nat)(Z Y:Nat->Int)(w:World)(hA:Rd w A n Z)(hB:Rd w B m Y):
  Calls Tryz.prog 50 #[.slice A n c,.slice B m d] w fun e w'=>e=.returned (.bool (zcm n Z m Y))/\zbb w w':=by
 by_cases h:n=m
 ·subst h;exact afz A B n c d Z Y w hA hB
 ·exact agb A B n m c d Z Y w h
set_option maxHeartbeats 400000 in
theorem acl(A B:Option Addr)(n c d:Nat)(Z Y:Nat->Int)(w:World)(hA:Rd w A n Z)(hB:Rd w B n Y):
  Calls Tryz.prog 48 #[.slice A n c,.slice B n d] w fun e w'=>e=.returned (.bool (zcm n Z n Y))/\zbb w w':=by
 have hn:=hA.small
 go_enter Tryz.func48,Tryz.ntmps48
 go_wp2
 go_loopg [5] n (fun g i wr=>∃ k:Nat,k<=n/\g=n - k/\i=.int .i64 k/\zbb w wr/\Aside (∀ j,j<k->Z j<=Y j))
 case atStart=>exact⟨0,Nat.zero_le _,rfl,rfl,zbb.refl _,fun _ h=>absurd h (Nat.not_lt_zero _)⟩
 case round =>
  obtain⟨k,hk,rfl,rfl,hd,hall⟩:=hrel
  by_cases hlt:k<n
  ·obtain⟨b,off,rfl,ca⟩:=(hA.below hd.below).adr (by omega)
   obtain⟨b',off',rfl,cb⟩:=(hB.below hd.below).adr (by omega)
   have g0:=ca k hlt;have g1:=cb k hlt;clear ca cb hA hB
   by_cases hz:Z k<=Y k
   ·go_wp2
    go_quiet (fail)
    go_wp2;go_roundg (n - (k+1))
    case measure=>omega
    case rel=>exact⟨k+1,hlt,rfl,by go_num,hd.drewN _,fun j hj=>by
     rcases Nat.lt_succ_iff_lt_or_eq.1 hj with h | rfl
     ·exact hall.out j h
     ·exact hz⟩
   ·go_wp2
    go_quiet (fail)
    go_wp2;go_ret
    exact⟨zsx (zwd hlt (by omega)).symm,hd.drewN _⟩
  ·obtain rfl:k=n:=by omega
   go_wp2;go_ret
   exact⟨zsx (zrw rfl hall.out).symm,hd⟩
set_option maxHeartbeats 400000 in
theorem acm(A B:Option Addr)(n m c d:Nat)(Z Y:Nat->Int)(w:World)(hA:Rd w A n Z)(hB:Rd w B m Y)(hne:n≠m):
  Calls Tryz.prog 48 #[.slice A n c,.slice B m d] w fun e w'=>e=.returned (.bool (zcm n Z m Y))/\zbb w w':=by
 have hn:=hA.small;have hm:=hB.small;have hneb:((n:Int)== (m:Int))=false:=by simp;omega
 rw[zwf hne];have hne:Hid (n≠m):=hne
 go_enter Tryz.func48,Tryz.ntmps48
 go_wp2
 go_loopg [5] n (fun g i wr=>∃ k:Nat,k<=n/\k<=m/\g=n - k/\i=.int .i64 k/\zbb w wr)
 case atStart=>exact⟨0,Nat.zero_le _,Nat.zero_le _,rfl,rfl,zbb.refl _⟩
 case round =>
  obtain⟨k,hk,hk',rfl,rfl,hd⟩:=hrel
  by_cases hlt:k<n
  ·by_cases hlt':k<m
   ·obtain⟨b,off,rfl,ca⟩:=(hA.below hd.below).adr (by omega)
    obtain⟨b',off',rfl,cb⟩:=(hB.below hd.below).adr (by omega)
    have g0:=ca k hlt;have g1:=cb k hlt';clear ca cb hA hB
    by_cases hz:Z k<=Y k
    ·go_wp2
     go_quiet (fail)
     go_wp2;go_roundg (n - (k+1))
     case measure=>omega
     case rel=>exact⟨k+1,hlt,hlt',rfl,by go_num,hd.drewN _⟩
    ·go_wp2
     go_quiet (fail)
     go_wp2;go_ret
     exact⟨rfl,hd.drewN _⟩
   ·go_wp2
    go_ret
    exact⟨rfl,hd⟩
  ·go_wp2
   go_ret
   exact⟨rfl,hd⟩
theorem zkv(A B:Option Addr)(n m c d:Nat)(Z Y:Nat->Int)(w:World)(hA:Rd w A n Z)(hB:Rd w B m Y):
  Calls Tryz.prog 48 #[.slice A n c,.slice B m d] w fun e w'=>e=.returned (.bool (zcm n Z m Y))/\zbb w w':=by
 by_cases h:n=m
 ·subst h;exact acl A B n c d Z Y w hA hB
 ·exact acm A B n m c d Z Y w hA hB h
theorem zqn{n m:Nat}{Z Y:Nat->Int}(h1:zcm n Z m Y=true):zcm m Y n Z=zfq n Z m Y:=by
 unfold zcm at h1;obtain⟨rfl,h2⟩:=of_decide_eq_true h1;unfold zcm zfq;rw[decide_eq_decide];exact⟨fun h=>⟨rfl,fun k hk=>by have:=h2 k hk;have:=h.2 k hk;omega⟩,fun h=>⟨rfl,fun k hk=>by have:=h.2 k hk;omega⟩⟩
theorem znr{n m:Nat}{Z Y:Nat->Int}(h1:zcm n Z m Y=false):zfq n Z m Y=false:=by
 unfold zcm at h1;unfold zfq;rw[decide_eq_false_iff_not] at h1 ⊢;exact fun h=>h1 ⟨h.1,fun k hk=>by have:=h.2 k hk;omega⟩
theorem znn(A B:Option Addr)(n m c d:Nat)(Z Y:Nat->Int)(w:World)(hA:Rd w A n Z)(hB:Rd w B m Y)(b:Bool)(h:zcm n Z m Y=b):
  Calls Tryz.prog 48 #[.slice A n c,.slice B m d] w fun e w'=>e=.returned (.bool b)/\zbb w w':=by
 rw[<- h];exact zkv A B n m c d Z Y w hA hB
theorem zwe(A B:Option Addr)(n m c d:Nat)(Z Y:Nat->Int)(w:World)(hA:Rd w A n Z)(hB:Rd w B m Y)(b:Bool)(h:zcm n Z m Y=b):
  Calls Tryz.prog 50 #[.slice A n c,.slice B m d] w fun e w'=>e=.returned (.bool b)/\zbb w w':=by
 rw[<- h];exact aam A B n m c d Z Y w hA hB
set_option maxHeartbeats 400000 in
theorem adf(A B:Option Addr)(n m c d:Nat)(Z Y:Nat->Int)(w:World)(hA:Rd w A n Z)(hB:Rd w B m Y)(b:Bool)(h:zfq n Z m Y=b):
  Calls Tryz.prog 71 #[.slice A n c,.slice B m d] w fun e w'=>e=.returned (.bool b)/\zbb w w':=by
 cases h1:zcm n Z m Y
 ·have hb:=znr h1
  have H1:Hid (zcm n Z m Y=false):=h1;obtain rfl:false=b:=hb.symm.trans h;clear h1 hb h
  go_enter Tryz.func71,Tryz.ntmps71
  go_wp2_with (go_at_call 48;refine(znn _ _ _ _ _ _ _ _ _ hA hB _ H1.out).mono ?_;rintro e w' ⟨rfl,hd⟩)
  go_ret
  exact⟨rfl,hd⟩
 ·have H2:Hid (zcm m Y n Z=b):=(zqn h1).trans h
  have H1:Hid (zcm n Z m Y=true):=h1;clear h1 h
  go_enter Tryz.func71,Tryz.ntmps71
  go_wp2_with fail;refine(znn _ _ _ _ _ _ _ _ _ hA hB _ H1.out).mono ?_;rintro e w' ⟨rfl,hd⟩;go_wp2_with fail;refine(znn _ _ _ _ _ _ _ _ _ (hB.below hd.below) (hA.below hd.below) _ H2.out).mono ?_;rintro e w'' ⟨rfl,hd'⟩;go_wp2_with fail;go_ret
  exact⟨rfl,hd.trans hd'⟩
theorem Tryz.info12:(Tryz.prog.info? 2).map (fun i=>(i.zero,i.size,i.bytes))=some (some (.int .i64 0),1,8):=by kernel_rfl
theorem aen{a b:Bool}(h:a=b):Value.bool a=.bool b:=by rw[h]
set_option maxHeartbeats 400000 in
theorem zth(i:Nat)(L:Option Addr)(R C:Nat)(A:Nat->Option Addr)(len K:Nat->Nat)(Z:Nat->Nat->Int)(w:World)(hL:Rds w L R A len K Z)(hR:R<=1048576)(hi:∀ r,r<R->i<len r)(hi2:i<=9223372036854775807):
  Calls Tryz.prog 124 #[.int .i64 i,.slice L R C] w fun e w'=>e=.returned (.tuple #[.int .i64 (wrap64 (sumTo R fun r=>Z r i)),.bool (inR (sumTo R fun r=>Z r i))])/\w'=w:=by
 go_enter Tryz.func124,Tryz.ntmps124
 go_wp2
 go_loopg [6,7,14] R (fun g h l j wr=>∃ k:Nat,k<=R/\g=R - k/\j=.int .i64 k/\h=.int .i64 (zlp (sumTo k fun r=>Z r i))/\l=.int .u64 (zfx (sumTo k fun r=>Z r i))/\w=wr)
 case atStart=>exact⟨0,Nat.zero_le _,rfl,rfl,rfl,rfl,rfl⟩
 case round =>
  obtain⟨k,hk,rfl,rfl,rfl,rfl,rfl⟩:=hrel
  by_cases hlt:k<R
  ·obtain⟨b,off,rfl,ca⟩:=hL.adr (by omega)
   have hsum:∀ r,r<k->-9223372036854775808<=Z r i/\Z r i<=9223372036854775807:=fun r hr=>(hL.row r (by omega)).range i (hi r (by omega))
   have hrow:=hL.row k hlt;have hik:=hi k hlt;obtain⟨b',off',ea,cb⟩:=hrow.adr (by omega)
   have g0:=ca k hlt;rw[ea] at g0;have g1:=cb i hik;obtain⟨z1,z2⟩:=hrow.range i hik;have hlen:=hrow.small;clear ca cb hrow hL hi ea;have hadd:=fun W=>amg (zfx (sumTo k fun r=>Z r i)) (zfx (Z k i)) (zwl _) (zwl _) W
   rw[zyj,show(zfx (sumTo k fun r=>Z r i)+zfx (Z k i)) / 18446744073709551616=carry (sumTo k fun r=>Z r i) (Z k i) from rfl] at hadd
   obtain⟨h1,h2⟩:=agf (zti (R:=k) (f:=fun r=>Z r i) hsum) (by omega)
   have hu:=ael (Z k i);have c1:=aad (sumTo k fun r=>Z r i) (Z k i)
   have c2:=aac (sumTo k fun r=>Z r i) (Z k i)
   clear hsum;go_wp2;go_roundg (R - (k+1))
   case measure=>omega
   case rel=>exact⟨k+1,hlt,rfl,by go_num,zmc (zyd z1 z2),rfl,rfl⟩
  ·obtain rfl:k=R:=by omega
   go_wp2;go_ret2
   exact⟨aht (zmc (zpm _)) (aen ((akg _).trans (akf _))),rfl⟩
set_option maxHeartbeats 400000 in
theorem zme(n:Nat)(w:World)(hn:n<=1048576):
  Calls Tryz.prog 93 #[.int .i64 n] w fun e w'=>e=.returned (.slice (some ⟨w.heap.size,0,none⟩) n n)/\w'=w.alloc (.cells (madeCells #[.int .i64 0] n) 2):=by
 have hmk:=run_make_row' (P:=Tryz.prog) 24 2 (.int .i64 0) 8 Tryz.underlying24 Tryz.info12 rfl .i64 .i64 n (by omega) (by omega)
 go_enter Tryz.func93,Tryz.ntmps93
 go_wp2;go_ret
 exact⟨rfl,rfl⟩
theorem zkn{n:Int}(h:inR n=true):-9223372036854775808<=n/\n<=9223372036854775807:=by unfold inR at h;exact of_decide_eq_true h
theorem zoe{n:Int}(h:inR n=true):wrap64 n=n:=IntWalk.wrap64_in n (zkn h)
theorem zzi(i:Nat)(L:Option Addr)(R C:Nat)(A:Nat->Option Addr)(len K:Nat->Nat)(Z:Nat->Nat->Int)(w:World)(hL:Rds w L R A len K Z)(hR:R<=1048576)(hi:∀ r,r<R->i<len r)(hi2:i<=9223372036854775807)(h:inR (sumTo R fun r=>Z r i)=true):
  Calls Tryz.prog 124 #[.int .i64 i,.slice L R C] w fun e w'=>e=.returned (.tuple #[.int .i64 (sumTo R fun r=>Z r i),.bool true])/\w'=w :=
 (zth i L R C A len K Z w hL hR hi hi2).mono fun e w' ⟨he,hw⟩=>⟨by rw[he,h,zoe h],hw⟩
theorem aed(i:Nat)(L:Option Addr)(R C:Nat)(A:Nat->Option Addr)(len K:Nat->Nat)(Z:Nat->Nat->Int)(w:World)(hL:Rds w L R A len K Z)(hR:R<=1048576)(hi:∀ r,r<R->i<len r)(hi2:i<=9223372036854775807)(h:inR (sumTo R fun r=>Z r i)=false):
  Calls Tryz.prog 124 #[.int .i64 i,.slice L R C] w fun e w'=>e=.returned (.tuple #[.int .i64 (wrap64 (sumTo R fun r=>Z r i)),.bool false])/\w'=w :=
 (zth i L R C A len K Z w hL hR hi hi2).mono fun e w' ⟨he,hw⟩=>⟨by rw[he,h],hw⟩
def zlb(R:Nat)(len:Nat->Nat)(Z:Nat->Nat->Int):Prop:=0<R/\(∀ r,r<R->len r=len 0)/\∀ k,k<len 0->inR (sumTo R fun r=>Z r k)=true
def afa(R:Nat)(len:Nat->Nat)(Z:Nat->Nat->Int)(w:World)(e:Ending)(w':World):Prop :=
 Below w.heap.size w w' /\
  ((zlb R len Z/\e=.returned (.tuple #[.slice (some ⟨w.heap.size,0,none⟩) (len 0) (len 0),.bool true])/\w'.rowIs w.heap.size 2 (len 0) (fun k=>.int .i64 (sumTo R fun r=>Z r k))) \/
    (¬zlb R len Z/\e=.returned (.tuple #[.slice none 0 0,.bool false])))
set_option maxHeartbeats 1000000 in
theorem zmk(L:Option Addr)(R C:Nat)(A:Nat->Option Addr)(len K:Nat->Nat)(Z:Nat->Nat->Int)(w:World)(hL:Rds w L R A len K Z)(hR:R<=1048576)(hlen:∀ r,r<R->len r<=1048576)(h0:0<R):
  Calls Tryz.prog 86 #[.slice L R C] w (afa R len Z w):=by
 have hRz:(0:Int)<(R:Int):=by omega
 have hRb:((R:Int)== 0)=false:=by simp;omega
 obtain⟨b,off,rfl,ca⟩:=hL.adr h0;have g0:=ca 0 h0;rw[Nat.add_zero] at g0;have hl0:=hlen 0 h0
 go_enter Tryz.func86,Tryz.ntmps86
 go_wp2_with (go_at_call 93;refine(zme _ _ (by omega)).mono ?_;rintro e w' ⟨rfl,rfl⟩)
 have hB:Below w.heap.size w (w.alloc (.cells (madeCells #[.int .i64 0] (len 0)) 2)):=(Below.refl _ _).alloc (Nat.le_refl _) _;have hrow:(w.alloc (.cells (madeCells #[.int .i64 0] (len 0)) 2)).rowIs w.heap.size 2 (len 0) (fun _=>.int .i64 0):=World.rowIs_made w _ _ 2
 generalize w.alloc (.cells (madeCells #[.int .i64 0] (len 0)) 2)=w1 at hB hrow ⊢;clear g0 ca;have hL1:=hL.below hB
 go_loopg [20] R (fun g i wr=>∃ k:Nat,k<=R/\g=R - k/\i=.int .i64 k/\w1=wr/\Aside (∀ j,j<k->len j=len 0))
 case atStart=>exact⟨0,Nat.zero_le _,rfl,rfl,rfl,fun _ h=>absurd h (Nat.not_lt_zero _)⟩
 case round =>
  obtain⟨k,hk,rfl,rfl,rfl,hall⟩:=hrel
  by_cases hlt:k<R
  ·obtain⟨b1,off1,e1,ca⟩:=hL1.adr h0
   injection e1 with e1
   injection e1 with e1 e2 _
   subst e1 e2;have g1:=ca k hlt;clear ca
   by_cases hz:len k=len 0
   ·have hzb:((len k:Int) != (len 0:Int))=false:=by simp[hz]
    have hz:Hid (len k=len 0):=hz;go_wp2;go_roundg (R - (k+1))
    case measure=>omega
    case rel=>exact⟨k+1,hlt,rfl,by go_num,rfl,fun j hj=>by
     rcases Nat.lt_succ_iff_lt_or_eq.1 hj with h | rfl
     ·exact hall.out j h
     ·exact hz.out⟩
   ·have hzb:((len k:Int) != (len 0:Int))=true:=by simp;omega
    have hz:Hid (len k≠len 0):=hz;go_wp2;go_ret2
    exact⟨hB,Or.inr ⟨fun h=>hz.out (h.2.1 k hlt),rfl⟩⟩
  ·obtain rfl:k=R:=by omega
   go_wp2;clear hlt
   go_loopg [32] (len 0) (fun g i wr=>∃ c:Nat,c<=len 0/\g=len 0 - c/\i=.int .i64 c/\Below w.heap.size w wr/\wr.rowIs w.heap.size 2 (len 0) (fun j=>if j<c then .int .i64 (sumTo k fun r=>Z r j) else .int .i64 0)/\Aside (∀ j,j<c->inR (sumTo k fun r=>Z r j)=true))
   case atStart=>exact⟨0,Nat.zero_le _,rfl,rfl,hB,hrow.congr (fun j _=>by simp),fun _ h=>absurd h (Nat.not_lt_zero _)⟩
   case round =>
    obtain⟨c,hc,rfl,rfl,hBc,hrc,hin⟩:=hrel
    by_cases hlt:c<len 0
    ·have hLc:=hL.below hBc
     have hi:∀ r,r<k->c<len r:=fun r hr=>by rw[hall.out r hr];exact hlt
     have hi2:c<=9223372036854775807:=by omega
     have g2:=hrc.cell hlt;have g3:=hrc.frozen c;cases hb:inR (sumTo k fun r=>Z r c)
     ·have hb:Hid (inR (sumTo k fun r=>Z r c)=false):=hb
      go_wp2_with (go_at_call 124;refine(aed _ _ _ _ _ _ _ _ _ hLc hR hi hi2 hb.out).mono ?_;rintro e w' ⟨rfl,rfl⟩)
      go_ret2
      exact⟨hBc,Or.inr ⟨(fun h=>by have:=h.2.2 c hlt;rw[hb.out] at this;cases this),rfl⟩⟩
     ·have hb:Hid (inR (sumTo k fun r=>Z r c)=true):=hb
      go_wp2_with (go_at_call 124;refine(zzi _ _ _ _ _ _ _ _ _ hLc hR hi hi2 hb.out).mono ?_;rintro e w' ⟨rfl,rfl⟩)
      go_roundg (len 0 - (c+1))
      case measure=>omega
      case rel=>exact⟨c+1,hlt,rfl,by go_num,hBc.setCell (Nat.le_refl _) _,(hrc.set c _).congr (fun j _=>by
       by_cases e:j=c
       ·subst e;simp
       ·rw[if_neg e]
        by_cases h2:j<c
        ·rw[if_pos h2,if_pos (by omega)]
        ·rw[if_neg h2,if_neg (by omega)]),fun j hj=>by
       rcases Nat.lt_succ_iff_lt_or_eq.1 hj with h | rfl
       ·exact hin.out j h
       ·exact hb.out⟩
    ·obtain rfl:c=len 0:=by omega
     go_wp2;go_ret2
     exact⟨hBc,Or.inl ⟨⟨h0,hall.out,hin.out⟩,rfl,hrc.congr (fun j hj=>by rw[if_pos hj])⟩⟩
theorem ztg{x y:Int}(h:zft x y=true):y<=x/\x - y<=9223372036854775807:=by unfold zft at h;exact of_decide_eq_true h
theorem aip(x y:Int)(w:World)(hx:-9223372036854775808<=x/\x<=9223372036854775807)(hy:-9223372036854775808<=y/\y<=9223372036854775807)(h:zft x y=true):
  Calls Tryz.prog 161 #[.int .i64 x,.int .i64 y] w fun e w'=>e=.returned (.tuple #[.int .i64 (x - y),.bool true])/\w'=w :=
 (aeb x y w hx hy).mono fun e w' ⟨he,hw⟩=>⟨by rw[he,h,IntWalk.wrap64_in (x - y) (by have:=ztg h;omega)],hw⟩
theorem als(x y:Int)(w:World)(hx:-9223372036854775808<=x/\x<=9223372036854775807)(hy:-9223372036854775808<=y/\y<=9223372036854775807)(h:zft x y=false):
  Calls Tryz.prog 161 #[.int .i64 x,.int .i64 y] w fun e w'=>e=.returned (.tuple #[.int .i64 (wrap64 (x - y)),.bool false])/\w'=w :=
 (aeb x y w hx hy).mono fun e w' ⟨he,hw⟩=>⟨by rw[he,h],hw⟩
def zvx(n:Nat)(Z:Nat->Int)(m:Nat)(Y:Nat->Int):Prop:=n=m/\∀ k,k<n->zft (Z k) (Y k)=true
def zgv(n:Nat)(Z:Nat->Int)(m:Nat)(Y:Nat->Int)(w:World)(e:Ending)(w':World):Prop :=
 Below w.heap.size w w' /\
  ((zvx n Z m Y/\e=.returned (.tuple #[.slice (some ⟨w.heap.size,0,none⟩) n n,.bool true])/\w'.rowIs w.heap.size 2 n (fun k=>.int .i64 (Z k - Y k))) \/
    (¬zvx n Z m Y/\e=.returned (.tuple #[.slice none 0 0,.bool false])))
set_option maxHeartbeats 1000000 in
theorem afu(A B:Option Addr)(n m c d:Nat)(Z Y:Nat->Int)(w:World)(h:n≠m)(F:Value):
  Calls Tryz.prog 160 #[.slice A n c,.slice B m d,F] w (zgv n Z m Y w):=by
 have hb:((n:Int) != (m:Int))=true:=by simp;omega
 have h:Hid (n≠m):=h
 go_enter Tryz.func160,Tryz.ntmps160
 go_wp2;go_ret2
 exact⟨Below.refl _ _,Or.inr ⟨fun k=>h.out k.1,rfl⟩⟩
theorem zsz{w:World}{b:Nat}{t:TypeId}{n:Nat}{f:Nat->Value}(h:w.rowIs b t n f)(q:Nat):(w.drewN q).rowIs b t n f:=h
set_option maxHeartbeats 1000000 in
theorem aft(A B:Option Addr)(n c d:Nat)(Z Y:Nat->Int)(w:World)(hA:Rd w A n Z)(hB:Rd w B n Y)(hn:n<=1048576):
  Calls Tryz.prog 160 #[.slice A n c,.slice B n d,.func (.func 161) #[] #[]] w (zgv n Z n Y w):=by
 go_enter Tryz.func160,Tryz.ntmps160
 go_wp2_with (go_at_call 93;refine(zme _ _ (by omega)).mono ?_;rintro e w' ⟨rfl,rfl⟩)
 have hW:Below w.heap.size w (w.alloc (.cells (madeCells #[.int .i64 0] n) 2)):=(Below.refl _ _).alloc (Nat.le_refl _) _;have hrow:(w.alloc (.cells (madeCells #[.int .i64 0] n) 2)).rowIs w.heap.size 2 n (fun _=>.int .i64 0):=World.rowIs_made w _ _ 2
 generalize w.alloc (.cells (madeCells #[.int .i64 0] n) 2)=w1 at hW hrow ⊢
 go_loopg [22] n (fun g i wr=>∃ k:Nat,k<=n/\g=n - k/\i=.int .i64 k/\Below w.heap.size w wr/\wr.rowIs w.heap.size 2 n (fun j=>if j<k then .int .i64 (Z j - Y j) else .int .i64 0)/\Aside (∀ j,j<k->zft (Z j) (Y j)=true))
 case atStart=>exact⟨0,Nat.zero_le _,rfl,rfl,hW,hrow.congr (fun j _=>by simp),fun _ h=>absurd h (Nat.not_lt_zero _)⟩
 case round =>
  obtain⟨k,hk,rfl,rfl,hBk,hrk,hin⟩:=hrel
  by_cases hlt:k<n
  ·obtain⟨b,off,rfl,ca⟩:=(hA.below hBk).adr (by omega)
   obtain⟨b',off',rfl,cb⟩:=(hB.below hBk).adr (by omega)
   have g0:=ca k hlt;have g1:=cb k hlt;have g2:=hrk.cell hlt;have g3:=hrk.frozen k;have r0:=hA.range k hlt;have r1:=hB.range k hlt;have r0:Hid (-9223372036854775808<=Z k/\Z k<=9223372036854775807):=r0;have r1:Hid (-9223372036854775808<=Y k/\Y k<=9223372036854775807):=r1;have hrk:Aside (wr.rowIs w.heap.size 2 n (fun j=>if j<k then .int .i64 (Z j - Y j) else .int .i64 0)):=hrk
   clear ca cb hA hB hrow;cases hz:zft (Z k) (Y k)
   ·have hz:Hid (zft (Z k) (Y k)=false):=hz
    go_wp2
    go_quiet ((go_at_call 161;exact Calls.quiet_of_same (als _ _ _ r0 r1 hz)))
    go_wp2;go_ret2
    exact⟨below_drewN hBk _,Or.inr ⟨(fun h=>by have:=h.2 k hlt;rw[hz.out] at this;cases this),rfl⟩⟩
   ·have hz:Hid (zft (Z k) (Y k)=true):=hz
    go_wp2
    go_quiet ((go_at_call 161;exact Calls.quiet_of_same (aip _ _ _ r0 r1 hz)))
    go_wp2;go_roundg (n - (k+1))
    case measure=>omega
    case rel=>exact⟨k+1,hlt,rfl,by go_num,(below_drewN hBk _).setCell (Nat.le_refl _) _,((zsz hrk.out _).set k _).congr (fun j _=>by
     by_cases e:j=k
     ·subst e;simp
     ·rw[if_neg e]
      by_cases h2:j<k
      ·rw[if_pos h2,if_pos (by omega)]
      ·rw[if_neg h2,if_neg (by omega)]),fun j hj=>by
     rcases Nat.lt_succ_iff_lt_or_eq.1 hj with h | rfl
     ·exact hin.out j h
     ·exact hz.out⟩
  ·obtain rfl:k=n:=by omega
   go_wp2;go_ret2
   exact⟨hBk,Or.inl ⟨⟨rfl,hin.out⟩,rfl,hrk.congr (fun j hj=>by rw[if_pos hj])⟩⟩
theorem aec(A B:Option Addr)(n m c d:Nat)(Z Y:Nat->Int)(w:World)(hA:Rd w A n Z)(hB:Rd w B m Y)(hn:n<=1048576):
  Calls Tryz.prog 160 #[.slice A n c,.slice B m d,.func (.func 161) #[] #[]] w (zgv n Z m Y w):=by
 by_cases h:n=m
 ·subst h;exact aft A B n c d Z Y w hA hB hn
 ·exact afu A B n m c d Z Y w h _
set_option maxHeartbeats 1000000 in
theorem aim(A B:Option Addr)(n m c d:Nat)(Z Y:Nat->Int)(w:World)(hA:Rd w A n Z)(hB:Rd w B m Y)(hn:n<=1048576):
  Calls Tryz.prog 148 #[.slice A n c,.slice B m d] w (zgv n Z m Y w):=by
 go_enter Tryz.func148,Tryz.ntmps148
 go_wp2_with fail;refine(aec _ _ _ _ _ _ _ _ _ hA hB hn).mono ?_;rintro e w' ⟨hb,⟨hok,rfl,hrow⟩ | ⟨hno,rfl⟩⟩
 ·go_wp2_with fail
  go_ret2
  exact⟨hb,Or.inl ⟨hok,rfl,hrow⟩⟩
 ·go_wp2_with fail
  go_ret2
  exact⟨hb,Or.inr ⟨hno,rfl⟩⟩
def zak(n:Nat)(Z:Nat->Int)(d:Int):Int :=
 match (List.range n).find? (fun k=>zbg (Z k)) with
 | some k=>k
 | none=>if (n:Int)=d then -1 else max (min d n) 0
theorem zgc{n:Nat}{Z:Nat->Int}{d:Int}{k:Nat}(hk:k<n)(hb:zbg (Z k)=true)(h:∀ j,j<k->zbg (Z j)=false):zak n Z d=k:=by
 have e:(List.range n).find? (fun k=>zbg (Z k))=some k:=by
  rw[List.find?_range_eq_some];exact⟨hb,List.mem_range.2 hk,fun j hj=>by rw[h j hj];rfl⟩
 rw[zak,e]
theorem zeb{n:Nat}{Z:Nat->Int}{d:Int}(h:∀ j,j<n->zbg (Z j)=false):zak n Z d=if (n:Int)=d then -1 else max (min d n) 0:=by
 have e:(List.range n).find? (fun k=>zbg (Z k))=none:=by
  rw[List.find?_range_eq_none];exact fun j hj=>by rw[h j hj];rfl
 rw[zak,e]
theorem zpt(n:Nat)(Z:Nat->Int):(∃ k,k<n/\zbg (Z k)=true/\∀ j,j<k->zbg (Z j)=false)\/∀ j,j<n->zbg (Z j)=false:=by
 induction n with
 | zero=>exact Or.inr fun _ h=>absurd h (Nat.not_lt_zero _)
 | succ n ih =>
   rcases ih with ⟨k,h1,h2,h3⟩ | h
   ·exact Or.inl ⟨k,by omega,h2,h3⟩
   ·cases hb:zbg (Z n)
    ·refine Or.inr fun j hj=>?_
     rcases Nat.lt_succ_iff_lt_or_eq.1 hj with h' | rfl
     ·exact h j h'
     ·exact hb
    ·exact Or.inl ⟨n,by omega,hb,h⟩
theorem znz(x:Int)(w:World)(b:Bool)(h:zbg x=b):Calls Tryz.prog 123 #[.int .i64 x] w fun e w'=>e=.returned (.bool b)/\w'=w:=by
 rw[<- h];exact zny x w
set_option maxHeartbeats 400000 in
theorem zyf(A:Option Addr)(n c:Nat)(Z:Nat->Int)(w:World)(hA:Rd w A n Z)(k:Nat)(hk:k<n)(hb:zbg (Z k)=true)(h:∀ j,j<k->zbg (Z j)=false):
  Calls Tryz.prog 122 #[.slice A n c,.func (.func 123) #[] #[]] w fun e w'=>e=.returned (.int .i64 k)/\w'=w:=by
 have hn:=hA.small;replace hb:Hid (zbg (Z k)=true):=hb;replace h:Hid (∀ j,j<k->zbg (Z j)=false):=h
 go_enter Tryz.func122,Tryz.ntmps122
 go_wp2
 go_loopg [8] n (fun g i wr=>∃ j:Nat,j<=k/\g=n - j/\i=.int .i64 j/\w=wr)
 case atStart=>exact⟨0,Nat.zero_le _,rfl,rfl,rfl⟩
 case round =>
  obtain⟨j,hj,rfl,rfl,rfl⟩:=hrel;obtain⟨b,off,rfl,ca⟩:=hA.adr (by omega)
  have hjn:j<n:=by omega
  have g0:=ca j hjn;clear ca hA
  by_cases hlt:j<k
  ·have hf:Hid (zbg (Z j)=false):=h.out j hlt
   go_wp2_with (go_at_call 123;refine(znz _ _ _ hf.out).mono ?_;rintro e w' ⟨rfl,rfl⟩)
   go_roundg (n - (j+1))
   case measure=>omega
   case rel=>exact⟨j+1,hlt,rfl,by go_num,rfl⟩
  ·obtain rfl:j=k:=by omega
   go_wp2_with (go_at_call 123;refine(znz _ _ _ hb.out).mono ?_;rintro e w' ⟨rfl,rfl⟩)
   go_ret
   exact⟨rfl,rfl⟩
set_option maxHeartbeats 400000 in
theorem zrz(A:Option Addr)(n c:Nat)(Z:Nat->Int)(w:World)(hA:Rd w A n Z)(h:∀ j,j<n->zbg (Z j)=false):
  Calls Tryz.prog 122 #[.slice A n c,.func (.func 123) #[] #[]] w fun e w'=>e=.returned (.int .i64 (-1))/\w'=w:=by
 have hn:=hA.small;replace h:Hid (∀ j,j<n->zbg (Z j)=false):=h
 go_enter Tryz.func122,Tryz.ntmps122
 go_wp2
 go_loopg [8] n (fun g i wr=>∃ j:Nat,j<=n/\g=n - j/\i=.int .i64 j/\w=wr)
 case atStart=>exact⟨0,Nat.zero_le _,rfl,rfl,rfl⟩
 case round =>
  obtain⟨j,hj,rfl,rfl,rfl⟩:=hrel
  by_cases hlt:j<n
  ·obtain⟨b,off,rfl,ca⟩:=hA.adr (by omega)
   have g0:=ca j hlt;clear ca hA;have hf:Hid (zbg (Z j)=false):=h.out j hlt;go_wp2_with (go_at_call 123;refine(znz _ _ _ hf.out).mono ?_;rintro e w' ⟨rfl,rfl⟩)
   go_roundg (n - (j+1))
   case measure=>omega
   case rel=>exact⟨j+1,hlt,rfl,by go_num,rfl⟩
  ·go_wp2
   go_ret
   exact⟨rfl,rfl⟩
theorem zey{k:IntKind}{a b:Int}(h:a=b):Ending.returned (.int k a)=.returned (.int k b):=by rw[h]
set_option maxHeartbeats 400000 in
theorem zfv(A:Option Addr)(n c:Nat)(Z:Nat->Int)(d:Int)(w:World)(hA:Rd w A n Z):
  Calls Tryz.prog 85 #[.slice A n c,.int .i64 d] w fun e w'=>e=.returned (.int .i64 (zak n Z d))/\w'=w:=by
 have hn:=hA.small;rcases zpt n Z with ⟨k,hk,hb,h⟩ | h
 ·have e0:Hid (zak n Z d=k):=zgc hk hb h
  replace hb:Hid (zbg (Z k)=true):=hb;replace h:Hid (∀ j,j<k->zbg (Z j)=false):=h
  go_enter Tryz.func85,Tryz.ntmps85
  go_wp2_with (go_at_call 122;refine(zyf _ _ _ _ _ hA k hk hb.out h.out).mono ?_;rintro e w' ⟨rfl,rfl⟩)
  go_ret
  exact⟨zey e0.out.symm,rfl⟩
 ·have e0:Hid (zak n Z d=if (n:Int)=d then -1 else max (min d n) 0):=zeb h
  replace h:Hid (∀ j,j<n->zbg (Z j)=false):=h
  by_cases hd:(n:Int)=d
  ·subst hd
   replace e0:=e0.out;rw[if_pos rfl] at e0;replace e0:Hid (zak n Z n = -1):=e0
   go_enter Tryz.func85,Tryz.ntmps85
   go_wp2_with (go_at_call 122;refine(zrz _ _ _ _ _ hA h.out).mono ?_;rintro e w' ⟨rfl,rfl⟩)
   go_ret
   exact⟨zey e0.out.symm,rfl⟩
  ·replace e0:=e0.out
   rw[if_neg hd] at e0;have hdb:((n:Int)== d)=false:=beq_eq_false_iff_ne.2 hd;replace hd:Hid (¬(n:Int)=d):=hd;replace e0:Hid (zak n Z d=max (min d n) 0):=e0
   go_enter Tryz.func85,Tryz.ntmps85
   go_wp2_with (go_at_call 122;refine(zrz _ _ _ _ _ hA h.out).mono ?_;rintro e w' ⟨rfl,rfl⟩)
   all_goals
    go_ret
    exact⟨zey (by rw[e0.out];omega),rfl⟩
theorem zlr{x:Int}(h:zbg x=false):0<=x/\x<=1099511627776:=by
 unfold zbg at h;rw[decide_eq_false_iff_not] at h;omega
theorem afk{x:Int}(h:zbg x=true):x<0\/1099511627776<x:=by
 unfold zbg at h;exact of_decide_eq_true h
set_option maxHeartbeats 400000 in
theorem zgz(A:Option Addr)(n c:Nat)(Z:Nat->Int)(d:Int)(w:World)(hA:Rd w A n Z):
  Calls Tryz.prog 45 #[.slice A n c,.int .i64 d] w fun e w'=>e=.returned (.int .i64 (zak n Z d))/\w'=w:=by
 have hn:=hA.small;rcases zpt n Z with ⟨k,hk,hb,h⟩ | h
 ·have e0:Hid (zak n Z d=k):=zgc hk hb h
  replace hb:Hid (zbg (Z k)=true):=hb;replace h:Hid (∀ j,j<k->zbg (Z j)=false):=h
  go_enter Tryz.func45,Tryz.ntmps45
  go_wp2
  go_loopg [5] n (fun g i wr=>∃ j:Nat,j<=k/\g=n - j/\i=.int .i64 j/\w=wr)
  case atStart=>exact⟨0,Nat.zero_le _,rfl,rfl,rfl⟩
  case round =>
   obtain⟨j,hj,rfl,rfl,rfl⟩:=hrel;obtain⟨b,off,rfl,ca⟩:=hA.adr (by omega)
   have hjn:j<n:=by omega
   have g0:=ca j hjn;clear ca hA
   by_cases hlt:j<k
   ·obtain⟨f1,f2⟩:=zlr (h.out j hlt)
    go_wp2;go_roundg (n - (j+1))
    case measure=>omega
    case rel=>exact⟨j+1,hlt,rfl,by go_num,rfl⟩
   ·obtain rfl:j=k:=by omega
    rcases afk hb.out with f | f
    ·go_wp2
     go_ret
     exact⟨zey e0.out.symm,rfl⟩
    ·have f':¬Z j<0:=by omega
     go_wp2;go_ret
     exact⟨zey e0.out.symm,rfl⟩
 ·have e0:Hid (zak n Z d=if (n:Int)=d then -1 else max (min d n) 0):=zeb h
  replace h:Hid (∀ j,j<n->zbg (Z j)=false):=h
  go_enter Tryz.func45,Tryz.ntmps45
  go_wp2
  go_loopg [5] n (fun g i wr=>∃ j:Nat,j<=n/\g=n - j/\i=.int .i64 j/\w=wr)
  case atStart=>exact⟨0,Nat.zero_le _,rfl,rfl,rfl⟩
  case round =>
   obtain⟨j,hj,rfl,rfl,rfl⟩:=hrel
   by_cases hlt:j<n
   ·obtain⟨b,off,rfl,ca⟩:=hA.adr (by omega)
    have g0:=ca j hlt;clear ca hA;obtain⟨f1,f2⟩:=zlr (h.out j hlt);go_wp2;go_roundg (n - (j+1))
    case measure=>omega
    case rel=>exact⟨j+1,hlt,rfl,by go_num,rfl⟩
   ·by_cases hd:(n:Int)=d
    ·subst hd
     replace e0:=e0.out;rw[if_pos rfl] at e0;replace e0:Hid (zak n Z n = -1):=e0;go_wp2;go_ret
     exact⟨zey e0.out.symm,rfl⟩
    ·replace e0:=e0.out
     rw[if_neg hd] at e0;have hdb:((n:Int)== d)=false:=beq_eq_false_iff_ne.2 hd;replace hd:Hid (¬(n:Int)=d):=hd;replace e0:Hid (zak n Z d=max (min d n) 0):=e0
     by_cases d0:d<0
     ·go_wp2
      go_ret
      exact⟨zey (by rw[e0.out];omega),rfl⟩
     ·by_cases d1:d<n
      ·go_wp2
       go_ret
       exact⟨zey (by rw[e0.out];omega),rfl⟩
      ·go_wp2
       go_ret
       exact⟨zey (by rw[e0.out];omega),rfl⟩
end Go.Proofs.YtcogiogjpbkeaaaGreatDoor.V12
