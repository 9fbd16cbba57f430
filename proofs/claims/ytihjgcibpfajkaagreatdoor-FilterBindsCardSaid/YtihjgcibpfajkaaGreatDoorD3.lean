/-
  The functions of stage 1 in this cut: vec.Zero, Add, Sub, Fits, Wrong; the reference's Fits, Same, Wrong. Conditions: at most 1048576 rows and amounts.
-/
import Derived.Test.YtihjgcibpfajkaaGreatDoorD2
import Derived.Laws.Entries
import Derived.IntWalk
import Derived.Laws.Bits64
import Derived.WideShapes
import Derived.Deep.AppendLies
namespace Go.Proofs.YtihjgcibpfajkaaGreatDoor.V12
open Go.RowKit
def hi(n:Int):Int:=n / 4294967296
def lo(n:Int):Int:=n % 4294967296
theorem zni(n:Int):0≤lo n:=by unfold lo;omega
theorem zqm(n:Int):lo n≤4294967295:=by unfold lo;omega
theorem zts(n:Int):bits .and .i64 n 4294967295=lo n:=by
 have e1:(BitVec.ofInt 64 n &&& BitVec.ofInt 64 4294967295).toNat=(lo n).toNat:=by
  rw[BitVec.toNat_and,BitVec.toNat_ofInt,show(BitVec.ofInt 64 4294967295).toNat=2 ^ 32 - 1 from by decide,Nat.and_two_pow_sub_one_eq_mod]
  unfold lo;omega
 show IntKind.i64.wrap ((BitVec.ofInt 64 n &&& BitVec.ofInt 64 4294967295).toNat:Int)=lo n
 have:=zni n;have:=zqm n;rw[e1,Int.toNat_of_nonneg (zni n),IntWalk.i64_in _ (by omega)]
theorem ack(n:Int):n / 4294967296=hi n:=rfl
theorem acj(a b:Int):hi a+hi b+(lo a+lo b) / 4294967296=hi (a+b):=by unfold hi lo;omega
theorem acz(a b:Int):lo (lo a+lo b)=lo (a+b):=by unfold lo;omega
theorem aez(a:Int):hi a * 4294967296+lo a=a:=by unfold hi lo;omega
def sumTo:Nat→(Nat→Int)→Int
 | 0,_=>0
 | k+1,f=>sumTo k f+f k
def zej(n:Int):Int:=n % 18446744073709551616
def zil(n:Int):Int:=n / 18446744073709551616
theorem zql(n:Int):0≤zej n:=by unfold zej;omega
def inR(n:Int):Bool:=decide (-9223372036854775808≤n∧n≤9223372036854775807)
theorem zob{R:Nat}{f:Nat→Int}(h:∀ k,k<R→-9223372036854775808≤f k∧f k≤9223372036854775807):-9223372036854775808 * (R:Int)≤sumTo R f∧sumTo R f≤9223372036854775808 * (R:Int):=by
 induction R with
 | zero=>simp[sumTo]
 | succ R ih =>
   obtain⟨h1,h2⟩:=ih fun k hk=>h k (by omega)
   obtain⟨h3,h4⟩:=h R (by omega)
   simp only[sumTo];omega
theorem zze{R:Nat}{n:Int}(h:-9223372036854775808 * (R:Int)≤n∧n≤9223372036854775808 * (R:Int))(hR:R≤1048576):-1048576≤zil n∧zil n≤1048576:=by unfold zil;omega
theorem zsf(s v:Int):(zej s+zej v) % 18446744073709551616=zej (s+v):=by unfold zej;omega
theorem zsb{s v:Int}(h1:-9223372036854775808≤v)(h2:v≤9223372036854775807):zil s+(v / 9223372036854775808+(zej s+zej v) / 18446744073709551616)=zil (s+v):=by
 unfold zil zej;omega
def carry(s v:Int):Int:=(zej s+zej v) / 18446744073709551616
theorem ztw(s v:Int):0≤carry s v:=by unfold carry zej;omega
theorem ztv(s v:Int):carry s v≤1:=by unfold carry zej;omega
theorem zkw(n:Int):wrap64 (zej n)=wrap64 n:=by unfold wrap64 zej;omega
theorem zxl(n:Int):IntKind.u64.wrap n=zej n:=by rw[IntKind.wrap_u64];rfl
theorem acp(n:Int):(zil n == wrap64 (zej n) / 9223372036854775808)=decide (zil n=wrap64 n / 9223372036854775808):=by
 rw[zkw]
 by_cases h:zil n=wrap64 n / 9223372036854775808
 ·rw[beq_iff_eq.2 h,decide_eq_true h]
 ·rw[beq_eq_false_iff_ne.2 h,decide_eq_false h]
theorem aco(n:Int):decide (zil n=wrap64 n / 9223372036854775808)=inR n:=by
 unfold zil inR wrap64;rw[decide_eq_decide];omega
theorem aet(x y:Int)(hx:0≤x)(hy:0≤y)(w:World):
  (callFunc 138 #[.int .u64 x,.int .u64 y,.int .u64 0]).run Tryz.prog w =
   .ok (.value (.tuple #[.int .u64 ((x+y) % 18446744073709551616),.int .u64 ((x+y) / 18446744073709551616)])) w:=by
 rw[run_callFunc_extern Tryz.func138 (by kernel_rfl) (by kernel_rfl) (by kernel_rfl) (e:=add64Entry) (by kernel_rfl),run_add64 x y 0 hx hy (by omega) (by omega)]
 simp only[Result.andThen,Int.add_zero]
def zdt(x y:Int):Bool:=decide (y≤x∧x - y≤9223372036854775807)
theorem zww{x y:Int}(x1:-9223372036854775808≤x)(x2:x≤9223372036854775807)(y1:-9223372036854775808≤y)(y2:y≤9223372036854775807)(h:y≤x):
  Value.bool (decide (0≤wrap64 (x - y)))=.bool (zdt x y):=by
 unfold zdt wrap64
 congr 1
 rw[decide_eq_decide];omega
theorem zwx{x y:Int}(h:x<y):Value.bool false=.bool (zdt x y):=by
 unfold zdt
 congr 1
 symm
 rw[decide_eq_false_iff_not];omega
theorem zhf{k:IntKind}{a b:Int}(h:a=b):Value.int k a=.int k b:=by rw[h]
theorem aah{a b c d:Value}(h1:a=c)(h2:b=d):Ending.returned (.tuple #[a,b])=.returned (.tuple #[c,d]):=by rw[h1,h2]
theorem zwy(x y:Int)(w:World)(hx:-9223372036854775808≤x∧x≤9223372036854775807)(hy:-9223372036854775808≤y∧y≤9223372036854775807):
  Calls Tryz.prog 112 #[.int .i64 x,.int .i64 y] w fun e w'=>e=.returned (.tuple #[.int .i64 (wrap64 (x - y)),.bool (zdt x y)])∧w'=w:=by
 obtain⟨x1,x2⟩:=hx;obtain⟨y1,y2⟩:=hy
 by_cases h:y≤x
 ·go_enter Tryz.func112,Tryz.ntmps112
  go_wp2;go_ret2
  exact⟨aah rfl (zww x1 x2 y1 y2 h),rfl⟩
 ·go_enter Tryz.func112,Tryz.ntmps112
  go_wp2;go_ret2
  exact⟨aah rfl (zwx h),rfl⟩
theorem zzt(x y:Int)(w:World):
  Calls Tryz.prog 111 #[.int .i64 x,.int .i64 y] w fun e w'=>e=.returned (.tuple #[.int .i64 (max x y),.bool true])∧w'=w:=by
 rcases Int.lt_or_le x y with h | h
 ·have h':max x y=y:=by omega
  rw[h']
  go_enter Tryz.func111,Tryz.ntmps111
  go_wp2;go_ret2
  exact⟨rfl,rfl⟩
 ·have h':max x y=x:=by omega
  rw[h']
  go_enter Tryz.func111,Tryz.ntmps111
  go_wp2;go_ret2
  exact⟨rfl,rfl⟩
def zat(x:Int):Bool:=decide (x<0∨1099511627776<x)
theorem abz{x:Int}(h:x<0):Ending.returned (.bool true)=.returned (.bool (zat x)):=by
 unfold zat;rw[decide_eq_true (Or.inl h)]
theorem aby{x:Int}(h:0≤x):Ending.returned (.bool (decide (1099511627776<x)))=.returned (.bool (zat x)):=by
 unfold zat
 congr 2
 rw[decide_eq_decide];omega
theorem zkf(x:Int)(w:World):
  Calls Tryz.prog 101 #[.int .i64 x] w fun e w'=>e=.returned (.bool (zat x))∧w'=w:=by
 by_cases h:x<0
 ·go_enter Tryz.func101,Tryz.ntmps101
  go_wp2;go_ret
  exact⟨abz h,rfl⟩
 ·go_enter Tryz.func101,Tryz.ntmps101
  go_wp2;go_ret
  exact⟨aby h,rfl⟩
theorem afc(n:Int)(w:World):
  Calls Tryz.prog 103 #[.int .i64 n] w fun e w'=>e=.returned (.agg #[.int .i64 (hi n),.int .i64 (lo n)])∧Below w.heap.size w w':=by
 go_enter Tryz.func103,Tryz.ntmps103
 go_wp2;refine bodyPost_ret (v:=.agg #[.int .i64 (hi n),.int .i64 (lo n)]) (by simp[results,Tryz.results103,go_sem,zts,ack]) rfl ⟨rfl,?_⟩
 exact(Below.refl _ _).alloc (Nat.le_refl _) _
theorem aac(a b:Int)(w:World)(h1:-1152921504606846976≤hi a)(h2:hi a≤1152921504606846976)(h3:-1152921504606846976≤hi b)(h4:hi b≤1152921504606846976):
  Calls Tryz.prog 104 #[.agg #[.int .i64 (hi a),.int .i64 (lo a)],.agg #[.int .i64 (hi b),.int .i64 (lo b)]] w fun e w'=>e=.returned (.agg #[.int .i64 (hi (a+b)),.int .i64 (lo (a+b))])∧Below w.heap.size w w':=by
 have l1:=zni a;have l2:=zqm a;have l3:=zni b;have l4:=zqm b
 go_enter Tryz.func104,Tryz.ntmps104
 go_wp2;refine bodyPost_ret (v:=.agg #[.int .i64 (hi (a+b)),.int .i64 (lo (a+b))]) (by simp[results,Tryz.results104,go_sem,zts,acj,acz]) rfl ⟨rfl,?_⟩
 exact(((Below.refl _ _).alloc (Nat.le_refl _) _).alloc (by simp) _).alloc (by simp;omega) _
theorem ztm(a:Int)(w:World)(h1:-9223372036854775808≤a)(h2:a≤9223372036854775807):
  Calls Tryz.prog 105 #[.agg #[.int .i64 (hi a),.int .i64 (lo a)]] w fun e w'=>e=.returned (.tuple #[.int .i64 a,.bool true])∧Below w.heap.size w w':=by
 have l1:=zni a;have l2:=zqm a;have g1:-2147483648≤hi a:=by unfold hi;omega
 have g2:hi a≤2147483647:=by unfold hi;omega
 go_enter Tryz.func105,Tryz.ntmps105
 go_wp2;go_ret2
 exact⟨aah (zhf (aez a)) rfl,(Below.refl _ _).alloc (Nat.le_refl _) _⟩
theorem zxp(a:Int)(w:World)(h1:a < -9223372036854775808):
  Calls Tryz.prog 105 #[.agg #[.int .i64 (hi a),.int .i64 (lo a)]] w fun e w'=>e=.returned (.tuple #[.int .i64 0,.bool false])∧Below w.heap.size w w':=by
 have g1:hi a < -2147483648:=by unfold hi;omega
 go_enter Tryz.func105,Tryz.ntmps105
 go_wp2;go_ret2
 exact⟨rfl,(Below.refl _ _).alloc (Nat.le_refl _) _⟩
theorem zxo(a:Int)(w:World)(h1:9223372036854775807<a):
  Calls Tryz.prog 105 #[.agg #[.int .i64 (hi a),.int .i64 (lo a)]] w fun e w'=>e=.returned (.tuple #[.int .i64 0,.bool false])∧Below w.heap.size w w':=by
 have g1:2147483647<hi a:=by unfold hi;omega
 have g2:¬hi a < -2147483648:=by unfold hi;omega
 go_enter Tryz.func105,Tryz.ntmps105
 go_wp2;go_ret2
 exact⟨rfl,(Below.refl _ _).alloc (Nat.le_refl _) _⟩
theorem zxr(a:Int)(w:World)(h:¬(-9223372036854775808≤a∧a≤9223372036854775807)):
  Calls Tryz.prog 105 #[.agg #[.int .i64 (hi a),.int .i64 (lo a)]] w fun e w'=>e=.returned (.tuple #[.int .i64 0,.bool false])∧Below w.heap.size w w':=by
 by_cases h1:a < -9223372036854775808
 ·exact zxp a w h1
 ·exact zxo a w (by omega)
structure Rds(w:World)(L:Option Addr)(R:Nat)(A:Nat→Option Addr)(len C:Nat→Nat)(Z:Nat→Nat→Int):Prop where
 small:R≤9223372036854775807
 adr:0<R→∃ b off,L=some ⟨b,off,none⟩∧∀ j,j<R→w.cell? ⟨b,off+j,none⟩=some (.slice (A j) (len j) (C j))
 row:∀ r,r<R→Rd w (A r) (len r) (Z r)
theorem Rds.below{w w':World}{L R A len C Z}(h:Rds w L R A len C Z)(hb:Below w.heap.size w w'):Rds w' L R A len C Z :=
 ⟨h.small,fun hn=>by
  obtain⟨b,off,e,hc⟩:=h.adr hn
  exact⟨b,off,e,fun j hj=>by rw[hb.cell (p:=⟨b,off+j,none⟩) (World.block_lt_of_cell? _ _ (hc j hj))];exact hc j hj⟩,fun r hr=>(h.row r hr).below hb⟩
theorem Rds.nil(w:World)(L:Option Addr)(A len C Z):Rds w L 0 A len C Z:=⟨by omega,fun h=>absurd h (Nat.lt_irrefl _),fun _ h=>absurd h (Nat.not_lt_zero _)⟩
theorem zec{w:World}{b n:Nat}{Z:Nat→Int}(h:w.rowIs b 2 n (fun k=>.int .i64 (Z k)))(hn:n≤9223372036854775807)(hr:∀ k,k<n→-9223372036854775808≤Z k∧Z k≤9223372036854775807):Rd w (some ⟨b,0,none⟩) n Z :=
 ⟨hn,hr,fun _=>⟨b,0,rfl,fun j hj=>by rw[Nat.zero_add];exact h.cell hj⟩⟩
def zbo(n:Nat)(D:Nat→Int):List Value:=(List.range n).map fun k=>.int .i64 (D k)
theorem zsw(n:Nat)(D:Nat→Int):zbo n D++[.int .i64 (D n)]=zbo (n+1) D:=by simp[zbo,List.range_succ]
theorem zvy{w:World}{base n:Nat}{v:Value}{D:Nat→Int}(h:w.ownsRow base 2 1 v n (zbo n D))(hn:n≤9223372036854775807)(hr:∀ k,k<n→-9223372036854775808≤D k∧D k≤9223372036854775807):
  ∃ A cap,v=.slice A n cap∧Rd w A n D:=by
 rcases h.2 with ⟨rfl,rfl⟩ | ⟨g,cap,cur,rfl,_,hb,_,_,_,ht⟩
 ·exact⟨none,0,rfl,Rd.nil _ _ _⟩
 ·refine⟨some ⟨g,0,none⟩,cap,rfl,hn,hr,fun _=>⟨g,0,rfl,fun j hj=>?_⟩⟩
  have:=h.cells (g:=g) rfl j (.int .i64 (D j)) (by simp[zbo,hj])
  rwa [WideShapes.add_plain] at this
def zcb(n:Nat)(Z:Nat→Int)(m:Nat)(Y:Nat→Int):Bool:=decide (n=m∧∀ k,k<n→Z k≤Y k)
def zha(n:Nat)(Z:Nat→Int)(m:Nat)(Y:Nat→Int):Bool:=decide (n=m∧∀ k,k<n→Z k=Y k)
theorem zqg{n m:Nat}{Z Y:Nat→Int}(h:n≠m):zcb n Z m Y=false:=by simp[zcb,h]
theorem zqe{n m:Nat}{Z Y:Nat→Int}{k:Nat}(hk:k<n)(h:Y k<Z k):zcb n Z m Y=false:=by
 unfold zcb;rw[decide_eq_false_iff_not];intro ⟨_,h2⟩;have:=h2 k hk;omega
theorem znb{n m:Nat}{Z Y:Nat→Int}(h:n=m)(h2:∀ k,k<n→Z k≤Y k):zcb n Z m Y=true:=by
 unfold zcb;exact decide_eq_true ⟨h,h2⟩
theorem aan{n m:Nat}{Z Y:Nat→Int}(h:n≠m):zha n Z m Y=false:=by simp[zha,h]
theorem zwl{n m:Nat}{Z Y:Nat→Int}{k:Nat}(hk:k<n)(h:Z k≠Y k):zha n Z m Y=false:=by
 unfold zha;rw[decide_eq_false_iff_not];intro ⟨_,h2⟩;exact h (h2 k hk)
theorem zhb{n m:Nat}{Z Y:Nat→Int}(h:n=m)(h2:∀ k,k<n→Z k=Y k):zha n Z m Y=true:=by
 unfold zha;exact decide_eq_true ⟨h,h2⟩
theorem znw{a b:Bool}(h:a=b):Ending.returned (.bool a)=.returned (.bool b):=by rw[h]
set_option maxHeartbeats 400000 in
theorem zyy(A B:Option Addr)(n m c d:Nat)(Z Y:Nat→Int)(w:World)(h:n≠m):
  Calls Tryz.prog 35 #[.slice A n c,.slice B m d] w fun e w'=>e=.returned (.bool (zcb n Z m Y))∧zau w w':=by
 go_enter Tryz.func35,Tryz.ntmps35
 go_wp2;go_ret
 exact⟨znw (zqg h).symm,zau.refl _⟩
set_option maxHeartbeats 400000 in
theorem zyw(A B:Option Addr)(n c d:Nat)(Z Y:Nat→Int)(w:World)(hA:Rd w A n Z)(hB:Rd w B n Y):
  Calls Tryz.prog 35 #[.slice A n c,.slice B n d] w fun e w'=>e=.returned (.bool (zcb n Z n Y))∧zau w w':=by
 have hn:=hA.small
 go_enter Tryz.func35,Tryz.ntmps35
 go_wp2
 go_loopg [13] n (fun g i wr=>∃ k:Nat,k≤n∧g=n - k∧i=.int .i64 k∧zau w wr∧Aside (∀ j,j<k→Z j≤Y j))
 case atStart=>exact⟨0,Nat.zero_le _,rfl,rfl,zau.refl _,fun _ h=>absurd h (Nat.not_lt_zero _)⟩
 case round =>
  obtain⟨k,hk,rfl,rfl,hd,hall⟩:=hrel
  by_cases hlt:k<n
  ·obtain⟨b,off,rfl,ca⟩:=(hA.below hd.below).adr (by omega)
   obtain⟨b',off',rfl,cb⟩:=(hB.below hd.below).adr (by omega)
   have g0:=ca k hlt;have g1:=cb k hlt;clear ca cb hA hB
   by_cases hz:Z k≤Y k
   ·go_wp2
    go_quiet (fail)
    go_wp2;go_roundg (n - (k+1))
    case measure=>omega
    case rel=>exact⟨k+1,hlt,rfl,by go_num,hd.drewN _,fun j hj=>by
     rcases Nat.lt_succ_iff_lt_or_eq.1 hj with h | rfl
     ·exact hall.out j h
     ·exact hz⟩
   ·go_wp2
    go_quiet (fail)
    go_wp2;go_ret
    exact⟨znw (zqe hlt (by omega)).symm,hd.drewN _⟩
  ·obtain rfl:k=n:=by omega
   go_wp2;go_ret
   exact⟨znw (znb rfl hall.out).symm,hd⟩
theorem zna(A B:Option Addr)(n m c d:Nat)(Z Y:Nat→Int)(w:World)(hA:Rd w A n Z)(hB:Rd w B m Y):
  Calls Tryz.prog 35 #[.slice A n c,.slice B m d] w fun e w'=>e=.returned (.bool (zcb n Z m Y))∧zau w w':=by
 by_cases h:n=m
 ·subst h;exact zyw A B n c d Z Y w hA hB
 ·exact zyy A B n m c d Z Y w h
set_option maxHeartbeats 400000 in
theorem zvz(A B:Option Addr)(n c d:Nat)(Z Y:Nat→Int)(w:World)(hA:Rd w A n Z)(hB:Rd w B n Y):
  Calls Tryz.prog 82 #[.slice A n c,.slice B n d] w fun e w'=>e=.returned (.bool (zcb n Z n Y))∧zau w w':=by
 have hn:=hA.small
 go_enter Tryz.func82,Tryz.ntmps82
 go_wp2
 go_loopg [5] n (fun g i wr=>∃ k:Nat,k≤n∧g=n - k∧i=.int .i64 k∧zau w wr∧Aside (∀ j,j<k→Z j≤Y j))
 case atStart=>exact⟨0,Nat.zero_le _,rfl,rfl,zau.refl _,fun _ h=>absurd h (Nat.not_lt_zero _)⟩
 case round =>
  obtain⟨k,hk,rfl,rfl,hd,hall⟩:=hrel
  by_cases hlt:k<n
  ·obtain⟨b,off,rfl,ca⟩:=(hA.below hd.below).adr (by omega)
   obtain⟨b',off',rfl,cb⟩:=(hB.below hd.below).adr (by omega)
   have g0:=ca k hlt;have g1:=cb k hlt;clear ca cb hA hB
   by_cases hz:Z k≤Y k
   ·go_wp2
    go_quiet (fail)
    go_wp2;go_roundg (n - (k+1))
    case measure=>omega
    case rel=>exact⟨k+1,hlt,rfl,by go_num,hd.drewN _,fun j hj=>by
     rcases Nat.lt_succ_iff_lt_or_eq.1 hj with h | rfl
     ·exact hall.out j h
     ·exact hz⟩
   ·go_wp2
    go_quiet (fail)
    go_wp2;go_ret
    exact⟨znw (zqe hlt (by omega)).symm,hd.drewN _⟩
  ·obtain rfl:k=n:=by omega
   go_wp2;go_ret
   exact⟨znw (znb rfl hall.out).symm,hd⟩
set_option maxHeartbeats 400000 in
theorem zwa(A B:Option Addr)(n m c d:Nat)(Z Y:Nat→Int)(w:World)(hA:Rd w A n Z)(hB:Rd w B m Y)(hne:n≠m):
  Calls Tryz.prog 82 #[.slice A n c,.slice B m d] w fun e w'=>e=.returned (.bool (zcb n Z m Y))∧zau w w':=by
 have hn:=hA.small;have hm:=hB.small;have hneb:((n:Int)== (m:Int))=false:=by simp;omega
 rw[zqg hne];have hne:Hid (n≠m):=hne
 go_enter Tryz.func82,Tryz.ntmps82
 go_wp2
 go_loopg [5] n (fun g i wr=>∃ k:Nat,k≤n∧k≤m∧g=n - k∧i=.int .i64 k∧zau w wr)
 case atStart=>exact⟨0,Nat.zero_le _,Nat.zero_le _,rfl,rfl,zau.refl _⟩
 case round =>
  obtain⟨k,hk,hk',rfl,rfl,hd⟩:=hrel
  by_cases hlt:k<n
  ·by_cases hlt':k<m
   ·obtain⟨b,off,rfl,ca⟩:=(hA.below hd.below).adr (by omega)
    obtain⟨b',off',rfl,cb⟩:=(hB.below hd.below).adr (by omega)
    have g0:=ca k hlt;have g1:=cb k hlt';clear ca cb hA hB
    by_cases hz:Z k≤Y k
    ·go_wp2
     go_quiet (fail)
     go_wp2;go_roundg (n - (k+1))
     case measure=>omega
     case rel=>exact⟨k+1,hlt,hlt',rfl,by go_num,hd.drewN _⟩
    ·go_wp2
     go_quiet (fail)
     go_wp2;go_ret
     exact⟨rfl,hd.drewN _⟩
   ·go_wp2
    go_ret
    exact⟨rfl,hd⟩
  ·go_wp2
   go_ret
   exact⟨rfl,hd⟩
theorem zsu(A B:Option Addr)(n m c d:Nat)(Z Y:Nat→Int)(w:World)(hA:Rd w A n Z)(hB:Rd w B m Y):
  Calls Tryz.prog 82 #[.slice A n c,.slice B m d] w fun e w'=>e=.returned (.bool (zcb n Z m Y))∧zau w w':=by
 by_cases h:n=m
 ·subst h;exact zvz A B n c d Z Y w hA hB
 ·exact zwa A B n m c d Z Y w hA hB h
theorem zqf(A B:Option Addr)(n m c d:Nat)(Z Y:Nat→Int)(w:World)(hA:Rd w A n Z)(hB:Rd w B m Y)(b:Bool)(h:zcb n Z m Y=b):
  Calls Tryz.prog 35 #[.slice A n c,.slice B m d] w fun e w'=>e=.returned (.bool b)∧zau w w':=by
 rw[← h];exact zna A B n m c d Z Y w hA hB
theorem Tryz.info12:(Tryz.prog.info? 2).map (fun i=>(i.zero,i.size,i.bytes))=some (some (.int .i64 0),1,8):=by kernel_rfl
theorem zxn{a b:Bool}(h:a=b):Value.bool a=.bool b:=by rw[h]
set_option maxHeartbeats 400000 in
theorem zoa(i:Nat)(L:Option Addr)(R C:Nat)(A:Nat→Option Addr)(len K:Nat→Nat)(Z:Nat→Nat→Int)(w:World)(hL:Rds w L R A len K Z)(hR:R≤1048576)(hi:∀ r,r<R→i<len r)(hi2:i≤9223372036854775807):
  Calls Tryz.prog 118 #[.int .i64 i,.slice L R C] w fun e w'=>e=.returned (.tuple #[.int .i64 (wrap64 (sumTo R fun r=>Z r i)),.bool (inR (sumTo R fun r=>Z r i))])∧w'=w:=by
 go_enter Tryz.func118,Tryz.ntmps118
 go_wp2
 go_loopg [6,7,14] R (fun g h l j wr=>∃ k:Nat,k≤R∧g=R - k∧j=.int .i64 k∧h=.int .i64 (zil (sumTo k fun r=>Z r i))∧l=.int .u64 (zej (sumTo k fun r=>Z r i))∧w=wr)
 case atStart=>exact⟨0,Nat.zero_le _,rfl,rfl,rfl,rfl,rfl⟩
 case round =>
  obtain⟨k,hk,rfl,rfl,rfl,rfl,rfl⟩:=hrel
  by_cases hlt:k<R
  ·obtain⟨b,off,rfl,ca⟩:=hL.adr (by omega)
   have hsum:∀ r,r<k→-9223372036854775808≤Z r i∧Z r i≤9223372036854775807:=fun r hr=>(hL.row r (by omega)).range i (hi r (by omega))
   have hrow:=hL.row k hlt;have hik:=hi k hlt;obtain⟨b',off',ea,cb⟩:=hrow.adr (by omega)
   have g0:=ca k hlt;rw[ea] at g0;have g1:=cb i hik;obtain⟨z1,z2⟩:=hrow.range i hik;have hlen:=hrow.small;clear ca cb hrow hL hi ea;have hadd:=fun W=>aet (zej (sumTo k fun r=>Z r i)) (zej (Z k i)) (zql _) (zql _) W
   rw[zsf,show(zej (sumTo k fun r=>Z r i)+zej (Z k i)) / 18446744073709551616=carry (sumTo k fun r=>Z r i) (Z k i) from rfl] at hadd
   obtain⟨h1,h2⟩:=zze (zob (R:=k) (f:=fun r=>Z r i) hsum) (by omega)
   have hu:=zxl (Z k i);have c1:=ztw (sumTo k fun r=>Z r i) (Z k i)
   have c2:=ztv (sumTo k fun r=>Z r i) (Z k i)
   clear hsum;go_wp2;go_roundg (R - (k+1))
   case measure=>omega
   case rel=>exact⟨k+1,hlt,rfl,by go_num,zhf (zsb z1 z2),rfl,rfl⟩
  ·obtain rfl:k=R:=by omega
   go_wp2;go_ret2
   exact⟨aah (zhf (zkw _)) (zxn ((acp _).trans (aco _))),rfl⟩
set_option maxHeartbeats 400000 in
theorem zhh(n:Nat)(w:World)(hn:n≤1048576):
  Calls Tryz.prog 75 #[.int .i64 n] w fun e w'=>e=.returned (.slice (some ⟨w.heap.size,0,none⟩) n n)∧w'=w.alloc (.cells (madeCells #[.int .i64 0] n) 2):=by
 have hmk:=run_make_row' (P:=Tryz.prog) 24 2 (.int .i64 0) 8 Tryz.underlying24 Tryz.info12 rfl .i64 .i64 n (by omega) (by omega)
 go_enter Tryz.func75,Tryz.ntmps75
 go_wp2;go_ret
 exact⟨rfl,rfl⟩
theorem zho{n:Int}(h:inR n=true):-9223372036854775808≤n∧n≤9223372036854775807:=by unfold inR at h;exact of_decide_eq_true h
theorem zkh{n:Int}(h:inR n=true):wrap64 n=n:=IntWalk.wrap64_in n (zho h)
theorem zte(i:Nat)(L:Option Addr)(R C:Nat)(A:Nat→Option Addr)(len K:Nat→Nat)(Z:Nat→Nat→Int)(w:World)(hL:Rds w L R A len K Z)(hR:R≤1048576)(hi:∀ r,r<R→i<len r)(hi2:i≤9223372036854775807)(h:inR (sumTo R fun r=>Z r i)=true):
  Calls Tryz.prog 118 #[.int .i64 i,.slice L R C] w fun e w'=>e=.returned (.tuple #[.int .i64 (sumTo R fun r=>Z r i),.bool true])∧w'=w :=
 (zoa i L R C A len K Z w hL hR hi hi2).mono fun e w' ⟨he,hw⟩=>⟨by rw[he,h,zkh h],hw⟩
theorem zxa(i:Nat)(L:Option Addr)(R C:Nat)(A:Nat→Option Addr)(len K:Nat→Nat)(Z:Nat→Nat→Int)(w:World)(hL:Rds w L R A len K Z)(hR:R≤1048576)(hi:∀ r,r<R→i<len r)(hi2:i≤9223372036854775807)(h:inR (sumTo R fun r=>Z r i)=false):
  Calls Tryz.prog 118 #[.int .i64 i,.slice L R C] w fun e w'=>e=.returned (.tuple #[.int .i64 (wrap64 (sumTo R fun r=>Z r i)),.bool false])∧w'=w :=
 (zoa i L R C A len K Z w hL hR hi hi2).mono fun e w' ⟨he,hw⟩=>⟨by rw[he,h],hw⟩
def zhw(R:Nat)(len:Nat→Nat)(Z:Nat→Nat→Int):Prop:=0<R∧(∀ r,r<R→len r=len 0)∧∀ k,k<len 0→inR (sumTo R fun r=>Z r k)=true
def zxv(R:Nat)(len:Nat→Nat)(Z:Nat→Nat→Int)(w:World)(e:Ending)(w':World):Prop :=
 Below w.heap.size w w' ∧
  ((zhw R len Z∧e=.returned (.tuple #[.slice (some ⟨w.heap.size,0,none⟩) (len 0) (len 0),.bool true])∧w'.rowIs w.heap.size 2 (len 0) (fun k=>.int .i64 (sumTo R fun r=>Z r k))) ∨
    (¬zhw R len Z∧e=.returned (.tuple #[.slice none 0 0,.bool false])))
set_option maxHeartbeats 1000000 in
theorem ziz(L:Option Addr)(R C:Nat)(A:Nat→Option Addr)(len K:Nat→Nat)(Z:Nat→Nat→Int)(w:World)(hL:Rds w L R A len K Z)(hR:R≤1048576)(hlen:∀ r,r<R→len r≤1048576)(h0:0<R):
  Calls Tryz.prog 100 #[.slice L R C] w (zxv R len Z w):=by
 have hRz:(0:Int)<(R:Int):=by omega
 have hRb:((R:Int)== 0)=false:=by simp;omega
 obtain⟨b,off,rfl,ca⟩:=hL.adr h0;have g0:=ca 0 h0;rw[Nat.add_zero] at g0;have hl0:=hlen 0 h0
 go_enter Tryz.func100,Tryz.ntmps100
 go_wp2_with (go_at_call 75;refine(zhh _ _ (by omega)).mono ?_;rintro e w' ⟨rfl,rfl⟩)
 have hB:Below w.heap.size w (w.alloc (.cells (madeCells #[.int .i64 0] (len 0)) 2)):=(Below.refl _ _).alloc (Nat.le_refl _) _;have hrow:(w.alloc (.cells (madeCells #[.int .i64 0] (len 0)) 2)).rowIs w.heap.size 2 (len 0) (fun _=>.int .i64 0):=World.rowIs_made w _ _ 2
 generalize w.alloc (.cells (madeCells #[.int .i64 0] (len 0)) 2)=w1 at hB hrow ⊢;clear g0 ca;have hL1:=hL.below hB
 go_loopg [20] R (fun g i wr=>∃ k:Nat,k≤R∧g=R - k∧i=.int .i64 k∧w1=wr∧Aside (∀ j,j<k→len j=len 0))
 case atStart=>exact⟨0,Nat.zero_le _,rfl,rfl,rfl,fun _ h=>absurd h (Nat.not_lt_zero _)⟩
 case round =>
  obtain⟨k,hk,rfl,rfl,rfl,hall⟩:=hrel
  by_cases hlt:k<R
  ·obtain⟨b1,off1,e1,ca⟩:=hL1.adr h0
   injection e1 with e1
   injection e1 with e1 e2 _
   subst e1 e2;have g1:=ca k hlt;clear ca
   by_cases hz:len k=len 0
   ·have hzb:((len k:Int) != (len 0:Int))=false:=by simp[hz]
    have hz:Hid (len k=len 0):=hz;go_wp2;go_roundg (R - (k+1))
    case measure=>omega
    case rel=>exact⟨k+1,hlt,rfl,by go_num,rfl,fun j hj=>by
     rcases Nat.lt_succ_iff_lt_or_eq.1 hj with h | rfl
     ·exact hall.out j h
     ·exact hz.out⟩
   ·have hzb:((len k:Int) != (len 0:Int))=true:=by simp;omega
    have hz:Hid (len k≠len 0):=hz;go_wp2;go_ret2
    exact⟨hB,Or.inr ⟨fun h=>hz.out (h.2.1 k hlt),rfl⟩⟩
  ·obtain rfl:k=R:=by omega
   go_wp2;clear hlt
   go_loopg [32] (len 0) (fun g i wr=>∃ c:Nat,c≤len 0∧g=len 0 - c∧i=.int .i64 c∧Below w.heap.size w wr∧wr.rowIs w.heap.size 2 (len 0) (fun j=>if j<c then .int .i64 (sumTo k fun r=>Z r j) else .int .i64 0)∧Aside (∀ j,j<c→inR (sumTo k fun r=>Z r j)=true))
   case atStart=>exact⟨0,Nat.zero_le _,rfl,rfl,hB,hrow.congr (fun j _=>by simp),fun _ h=>absurd h (Nat.not_lt_zero _)⟩
   case round =>
    obtain⟨c,hc,rfl,rfl,hBc,hrc,hin⟩:=hrel
    by_cases hlt:c<len 0
    ·have hLc:=hL.below hBc
     have hi:∀ r,r<k→c<len r:=fun r hr=>by rw[hall.out r hr];exact hlt
     have hi2:c≤9223372036854775807:=by omega
     have g2:=hrc.cell hlt;have g3:=hrc.frozen c;cases hb:inR (sumTo k fun r=>Z r c)
     ·have hb:Hid (inR (sumTo k fun r=>Z r c)=false):=hb
      go_wp2_with (go_at_call 118;refine(zxa _ _ _ _ _ _ _ _ _ hLc hR hi hi2 hb.out).mono ?_;rintro e w' ⟨rfl,rfl⟩)
      go_ret2
      exact⟨hBc,Or.inr ⟨(fun h=>by have:=h.2.2 c hlt;rw[hb.out] at this;cases this),rfl⟩⟩
     ·have hb:Hid (inR (sumTo k fun r=>Z r c)=true):=hb
      go_wp2_with (go_at_call 118;refine(zte _ _ _ _ _ _ _ _ _ hLc hR hi hi2 hb.out).mono ?_;rintro e w' ⟨rfl,rfl⟩)
      go_roundg (len 0 - (c+1))
      case measure=>omega
      case rel=>exact⟨c+1,hlt,rfl,by go_num,hBc.setCell (Nat.le_refl _) _,(hrc.set c _).congr (fun j _=>by
       by_cases e:j=c
       ·subst e;simp
       ·rw[if_neg e]
        by_cases h2:j<c
        ·rw[if_pos h2,if_pos (by omega)]
        ·rw[if_neg h2,if_neg (by omega)]),fun j hj=>by
       rcases Nat.lt_succ_iff_lt_or_eq.1 hj with h | rfl
       ·exact hin.out j h
       ·exact hb.out⟩
    ·obtain rfl:c=len 0:=by omega
     go_wp2;go_ret2
     exact⟨hBc,Or.inl ⟨⟨h0,hall.out,hin.out⟩,rfl,hrc.congr (fun j hj=>by rw[if_pos hj])⟩⟩
theorem znz{x y:Int}(h:zdt x y=true):y≤x∧x - y≤9223372036854775807:=by unfold zdt at h;exact of_decide_eq_true h
theorem abb(x y:Int)(w:World)(hx:-9223372036854775808≤x∧x≤9223372036854775807)(hy:-9223372036854775808≤y∧y≤9223372036854775807)(h:zdt x y=true):
  Calls Tryz.prog 112 #[.int .i64 x,.int .i64 y] w fun e w'=>e=.returned (.tuple #[.int .i64 (x - y),.bool true])∧w'=w :=
 (zwy x y w hx hy).mono fun e w' ⟨he,hw⟩=>⟨by rw[he,h,IntWalk.wrap64_in (x - y) (by have:=znz h;omega)],hw⟩
theorem aei(x y:Int)(w:World)(hx:-9223372036854775808≤x∧x≤9223372036854775807)(hy:-9223372036854775808≤y∧y≤9223372036854775807)(h:zdt x y=false):
  Calls Tryz.prog 112 #[.int .i64 x,.int .i64 y] w fun e w'=>e=.returned (.tuple #[.int .i64 (wrap64 (x - y)),.bool false])∧w'=w :=
 (zwy x y w hx hy).mono fun e w' ⟨he,hw⟩=>⟨by rw[he,h],hw⟩
def zmk(n:Nat)(Z:Nat→Int)(m:Nat)(Y:Nat→Int):Prop:=n=m∧∀ k,k<n→zdt (Z k) (Y k)=true
def zfc(n:Nat)(Z:Nat→Int)(m:Nat)(Y:Nat→Int)(w:World)(e:Ending)(w':World):Prop :=
 Below w.heap.size w w' ∧
  ((zmk n Z m Y∧e=.returned (.tuple #[.slice (some ⟨w.heap.size,0,none⟩) n n,.bool true])∧w'.rowIs w.heap.size 2 n (fun k=>.int .i64 (Z k - Y k))) ∨
    (¬zmk n Z m Y∧e=.returned (.tuple #[.slice none 0 0,.bool false])))
set_option maxHeartbeats 1000000 in
theorem zyo(A B:Option Addr)(n m c d:Nat)(Z Y:Nat→Int)(w:World)(h:n≠m)(F:Value):
  Calls Tryz.prog 110 #[.slice A n c,.slice B m d,F] w (zfc n Z m Y w):=by
 have hb:((n:Int) != (m:Int))=true:=by simp;omega
 have h:Hid (n≠m):=h
 go_enter Tryz.func110,Tryz.ntmps110
 go_wp2;go_ret2
 exact⟨Below.refl _ _,Or.inr ⟨fun k=>h.out k.1,rfl⟩⟩
theorem zii{w:World}{b:Nat}{t:TypeId}{n:Nat}{f:Nat→Value}(h:w.rowIs b t n f)(q:Nat):(w.drewN q).rowIs b t n f:=h
set_option maxHeartbeats 1000000 in
theorem zyn(A B:Option Addr)(n c d:Nat)(Z Y:Nat→Int)(w:World)(hA:Rd w A n Z)(hB:Rd w B n Y)(hn:n≤1048576):
  Calls Tryz.prog 110 #[.slice A n c,.slice B n d,.func (.func 112) #[] #[]] w (zfc n Z n Y w):=by
 go_enter Tryz.func110,Tryz.ntmps110
 go_wp2_with (go_at_call 75;refine(zhh _ _ (by omega)).mono ?_;rintro e w' ⟨rfl,rfl⟩)
 have hW:Below w.heap.size w (w.alloc (.cells (madeCells #[.int .i64 0] n) 2)):=(Below.refl _ _).alloc (Nat.le_refl _) _;have hrow:(w.alloc (.cells (madeCells #[.int .i64 0] n) 2)).rowIs w.heap.size 2 n (fun _=>.int .i64 0):=World.rowIs_made w _ _ 2
 generalize w.alloc (.cells (madeCells #[.int .i64 0] n) 2)=w1 at hW hrow ⊢
 go_loopg [22] n (fun g i wr=>∃ k:Nat,k≤n∧g=n - k∧i=.int .i64 k∧Below w.heap.size w wr∧wr.rowIs w.heap.size 2 n (fun j=>if j<k then .int .i64 (Z j - Y j) else .int .i64 0)∧Aside (∀ j,j<k→zdt (Z j) (Y j)=true))
 case atStart=>exact⟨0,Nat.zero_le _,rfl,rfl,hW,hrow.congr (fun j _=>by simp),fun _ h=>absurd h (Nat.not_lt_zero _)⟩
 case round =>
  obtain⟨k,hk,rfl,rfl,hBk,hrk,hin⟩:=hrel
  by_cases hlt:k<n
  ·obtain⟨b,off,rfl,ca⟩:=(hA.below hBk).adr (by omega)
   obtain⟨b',off',rfl,cb⟩:=(hB.below hBk).adr (by omega)
   have g0:=ca k hlt;have g1:=cb k hlt;have g2:=hrk.cell hlt;have g3:=hrk.frozen k;have r0:=hA.range k hlt;have r1:=hB.range k hlt;have r0:Hid (-9223372036854775808≤Z k∧Z k≤9223372036854775807):=r0;have r1:Hid (-9223372036854775808≤Y k∧Y k≤9223372036854775807):=r1;have hrk:Aside (wr.rowIs w.heap.size 2 n (fun j=>if j<k then .int .i64 (Z j - Y j) else .int .i64 0)):=hrk
   clear ca cb hA hB hrow;cases hz:zdt (Z k) (Y k)
   ·have hz:Hid (zdt (Z k) (Y k)=false):=hz
    go_wp2
    go_quiet ((go_at_call 112;exact Calls.quiet_of_same (aei _ _ _ r0 r1 hz)))
    go_wp2;go_ret2
    exact⟨below_drewN hBk _,Or.inr ⟨(fun h=>by have:=h.2 k hlt;rw[hz.out] at this;cases this),rfl⟩⟩
   ·have hz:Hid (zdt (Z k) (Y k)=true):=hz
    go_wp2
    go_quiet ((go_at_call 112;exact Calls.quiet_of_same (abb _ _ _ r0 r1 hz)))
    go_wp2;go_roundg (n - (k+1))
    case measure=>omega
    case rel=>exact⟨k+1,hlt,rfl,by go_num,(below_drewN hBk _).setCell (Nat.le_refl _) _,((zii hrk.out _).set k _).congr (fun j _=>by
     by_cases e:j=k
     ·subst e;simp
     ·rw[if_neg e]
      by_cases h2:j<k
      ·rw[if_pos h2,if_pos (by omega)]
      ·rw[if_neg h2,if_neg (by omega)]),fun j hj=>by
     rcases Nat.lt_succ_iff_lt_or_eq.1 hj with h | rfl
     ·exact hin.out j h
     ·exact hz.out⟩
  ·obtain rfl:k=n:=by omega
   go_wp2;go_ret2
   exact⟨hBk,Or.inl ⟨⟨rfl,hin.out⟩,rfl,hrk.congr (fun j hj=>by rw[if_pos hj])⟩⟩
theorem zwz(A B:Option Addr)(n m c d:Nat)(Z Y:Nat→Int)(w:World)(hA:Rd w A n Z)(hB:Rd w B m Y)(hn:n≤1048576):
  Calls Tryz.prog 110 #[.slice A n c,.slice B m d,.func (.func 112) #[] #[]] w (zfc n Z m Y w):=by
 by_cases h:n=m
 ·subst h;exact zyn A B n c d Z Y w hA hB hn
 ·exact zyo A B n m c d Z Y w h _
set_option maxHeartbeats 1000000 in
theorem zrd(A B:Option Addr)(n m c d:Nat)(Z Y:Nat→Int)(w:World)(hA:Rd w A n Z)(hB:Rd w B m Y)(hn:n≤1048576):
  Calls Tryz.prog 88 #[.slice A n c,.slice B m d] w (zfc n Z m Y w):=by
 go_enter Tryz.func88,Tryz.ntmps88
 go_wp2_with fail;refine(zwz _ _ _ _ _ _ _ _ _ hA hB hn).mono ?_;rintro e w' ⟨hb,⟨hok,rfl,hrow⟩ | ⟨hno,rfl⟩⟩
 ·go_wp2_with fail
  go_ret2
  exact⟨hb,Or.inl ⟨hok,rfl,hrow⟩⟩
 ·go_wp2_with fail
  go_ret2
  exact⟨hb,Or.inr ⟨hno,rfl⟩⟩
def zgj(n:Nat)(Z:Nat→Int)(m:Nat)(Y:Nat→Int)(w:World)(e:Ending)(w':World):Prop :=
 Below w.heap.size w w' ∧
  ((n=m∧e=.returned (.tuple #[.slice (some ⟨w.heap.size,0,none⟩) n n,.bool true])∧w'.rowIs w.heap.size 2 n (fun k=>.int .i64 (max (Z k) (Y k)))) ∨
    (n≠m∧e=.returned (.tuple #[.slice none 0 0,.bool false])))
set_option maxHeartbeats 1000000 in
theorem zua(A B:Option Addr)(n m c d:Nat)(Z Y:Nat→Int)(w:World)(h:n≠m)(F:Value):
  Calls Tryz.prog 110 #[.slice A n c,.slice B m d,F] w (zgj n Z m Y w):=by
 have hb:((n:Int) != (m:Int))=true:=by simp;omega
 have h:Hid (n≠m):=h
 go_enter Tryz.func110,Tryz.ntmps110
 go_wp2;go_ret2
 exact⟨Below.refl _ _,Or.inr ⟨h.out,rfl⟩⟩
set_option maxHeartbeats 1000000 in
theorem ztz(A B:Option Addr)(n c d:Nat)(Z Y:Nat→Int)(w:World)(hA:Rd w A n Z)(hB:Rd w B n Y)(hn:n≤1048576):
  Calls Tryz.prog 110 #[.slice A n c,.slice B n d,.func (.func 111) #[] #[]] w (zgj n Z n Y w):=by
 go_enter Tryz.func110,Tryz.ntmps110
 go_wp2_with (go_at_call 75;refine(zhh _ _ (by omega)).mono ?_;rintro e w' ⟨rfl,rfl⟩)
 have hW:Below w.heap.size w (w.alloc (.cells (madeCells #[.int .i64 0] n) 2)):=(Below.refl _ _).alloc (Nat.le_refl _) _;have hrow:(w.alloc (.cells (madeCells #[.int .i64 0] n) 2)).rowIs w.heap.size 2 n (fun _=>.int .i64 0):=World.rowIs_made w _ _ 2
 generalize w.alloc (.cells (madeCells #[.int .i64 0] n) 2)=w1 at hW hrow ⊢
 go_loopg [22] n (fun g i wr=>∃ k:Nat,k≤n∧g=n - k∧i=.int .i64 k∧Below w.heap.size w wr∧wr.rowIs w.heap.size 2 n (fun j=>if j<k then .int .i64 (max (Z j) (Y j)) else .int .i64 0))
 case atStart=>exact⟨0,Nat.zero_le _,rfl,rfl,hW,hrow.congr (fun j _=>by simp)⟩
 case round =>
  obtain⟨k,hk,rfl,rfl,hBk,hrk⟩:=hrel
  by_cases hlt:k<n
  ·obtain⟨b,off,rfl,ca⟩:=(hA.below hBk).adr (by omega)
   obtain⟨b',off',rfl,cb⟩:=(hB.below hBk).adr (by omega)
   have g0:=ca k hlt;have g1:=cb k hlt;have g2:=hrk.cell hlt;have g3:=hrk.frozen k;have hrk:Aside (wr.rowIs w.heap.size 2 n (fun j=>if j<k then .int .i64 (max (Z j) (Y j)) else .int .i64 0)):=hrk
   clear ca cb hA hB hrow
   ·go_wp2
    go_quiet ((go_at_call 111;exact Calls.quiet_of_same (zzt _ _ _)))
    go_wp2;go_roundg (n - (k+1))
    case measure=>omega
    case rel=>exact⟨k+1,hlt,rfl,by go_num,(below_drewN hBk _).setCell (Nat.le_refl _) _,((zii hrk.out _).set k _).congr (fun j _=>by
     by_cases e:j=k
     ·subst e;simp
     ·rw[if_neg e]
      by_cases h2:j<k
      ·rw[if_pos h2,if_pos (by omega)]
      ·rw[if_neg h2,if_neg (by omega)])⟩
  ·obtain rfl:k=n:=by omega
   go_wp2;go_ret2
   exact⟨hBk,Or.inl ⟨rfl,rfl,hrk.congr (fun j hj=>by rw[if_pos hj])⟩⟩
theorem zsj(A B:Option Addr)(n m c d:Nat)(Z Y:Nat→Int)(w:World)(hA:Rd w A n Z)(hB:Rd w B m Y)(hn:n≤1048576):
  Calls Tryz.prog 110 #[.slice A n c,.slice B m d,.func (.func 111) #[] #[]] w (zgj n Z m Y w):=by
 by_cases h:n=m
 ·subst h;exact ztz A B n c d Z Y w hA hB hn
 ·exact zua A B n m c d Z Y w h _
set_option maxHeartbeats 1000000 in
theorem zva(A B:Option Addr)(n m c d:Nat)(Z Y:Nat→Int)(w:World)(hA:Rd w A n Z)(hB:Rd w B m Y)(hn:n≤1048576):
  Calls Tryz.prog 87 #[.slice A n c,.slice B m d] w (zgj n Z m Y w):=by
 go_enter Tryz.func87,Tryz.ntmps87
 go_wp2_with fail;refine(zsj _ _ _ _ _ _ _ _ _ hA hB hn).mono ?_;rintro e w' ⟨hb,⟨hok,rfl,hrow⟩ | ⟨hno,rfl⟩⟩
 ·replace hok:Hid (n=m):=hok
  go_wp2_with fail;go_ret2
  exact⟨hb,Or.inl ⟨hok.out,rfl,hrow⟩⟩
 ·replace hno:Hid (n≠m):=hno
  go_wp2_with fail;go_ret2
  exact⟨hb,Or.inr ⟨hno.out,rfl⟩⟩
def zae(n:Nat)(Z:Nat→Int)(d:Int):Int :=
 match (List.range n).find? (fun k=>zat (Z k)) with
 | some k=>k
 | none=>if (n:Int)=d then -1 else max (min d n) 0
theorem zeo{n:Nat}{Z:Nat→Int}{d:Int}{k:Nat}(hk:k<n)(hb:zat (Z k)=true)(h:∀ j,j<k→zat (Z j)=false):zae n Z d=k:=by
 have e:(List.range n).find? (fun k=>zat (Z k))=some k:=by
  rw[List.find?_range_eq_some];exact⟨hb,List.mem_range.2 hk,fun j hj=>by rw[h j hj];rfl⟩
 rw[zae,e]
theorem zdc{n:Nat}{Z:Nat→Int}{d:Int}(h:∀ j,j<n→zat (Z j)=false):zae n Z d=if (n:Int)=d then -1 else max (min d n) 0:=by
 have e:(List.range n).find? (fun k=>zat (Z k))=none:=by
  rw[List.find?_range_eq_none];exact fun j hj=>by rw[h j hj];rfl
 rw[zae,e]
theorem zld(n:Nat)(Z:Nat→Int):(∃ k,k<n∧zat (Z k)=true∧∀ j,j<k→zat (Z j)=false)∨∀ j,j<n→zat (Z j)=false:=by
 induction n with
 | zero=>exact Or.inr fun _ h=>absurd h (Nat.not_lt_zero _)
 | succ n ih =>
   rcases ih with ⟨k,h1,h2,h3⟩ | h
   ·exact Or.inl ⟨k,by omega,h2,h3⟩
   ·cases hb:zat (Z n)
    ·refine Or.inr fun j hj=>?_
     rcases Nat.lt_succ_iff_lt_or_eq.1 hj with h' | rfl
     ·exact h j h'
     ·exact hb
    ·exact Or.inl ⟨n,by omega,hb,h⟩
theorem zkg(x:Int)(w:World)(b:Bool)(h:zat x=b):Calls Tryz.prog 101 #[.int .i64 x] w fun e w'=>e=.returned (.bool b)∧w'=w:=by
 rw[← h];exact zkf x w
set_option maxHeartbeats 400000 in
theorem zsc(A:Option Addr)(n c:Nat)(Z:Nat→Int)(w:World)(hA:Rd w A n Z)(k:Nat)(hk:k<n)(hb:zat (Z k)=true)(h:∀ j,j<k→zat (Z j)=false):
  Calls Tryz.prog 53 #[.slice A n c,.func (.func 101) #[] #[]] w fun e w'=>e=.returned (.int .i64 k)∧w'=w:=by
 have hn:=hA.small;replace hb:Hid (zat (Z k)=true):=hb;replace h:Hid (∀ j,j<k→zat (Z j)=false):=h
 go_enter Tryz.func53,Tryz.ntmps53
 go_wp2
 go_loopg [8] n (fun g i wr=>∃ j:Nat,j≤k∧g=n - j∧i=.int .i64 j∧w=wr)
 case atStart=>exact⟨0,Nat.zero_le _,rfl,rfl,rfl⟩
 case round =>
  obtain⟨j,hj,rfl,rfl,rfl⟩:=hrel;obtain⟨b,off,rfl,ca⟩:=hA.adr (by omega)
  have hjn:j<n:=by omega
  have g0:=ca j hjn;clear ca hA
  by_cases hlt:j<k
  ·have hf:Hid (zat (Z j)=false):=h.out j hlt
   go_wp2_with (go_at_call 101;refine(zkg _ _ _ hf.out).mono ?_;rintro e w' ⟨rfl,rfl⟩)
   go_roundg (n - (j+1))
   case measure=>omega
   case rel=>exact⟨j+1,hlt,rfl,by go_num,rfl⟩
  ·obtain rfl:j=k:=by omega
   go_wp2_with (go_at_call 101;refine(zkg _ _ _ hb.out).mono ?_;rintro e w' ⟨rfl,rfl⟩)
   go_ret
   exact⟨rfl,rfl⟩
set_option maxHeartbeats 400000 in
theorem zne(A:Option Addr)(n c:Nat)(Z:Nat→Int)(w:World)(hA:Rd w A n Z)(h:∀ j,j<n→zat (Z j)=false):
  Calls Tryz.prog 53 #[.slice A n c,.func (.func 101) #[] #[]] w fun e w'=>e=.returned (.int .i64 (-1))∧w'=w:=by
 have hn:=hA.small;replace h:Hid (∀ j,j<n→zat (Z j)=false):=h
 go_enter Tryz.func53,Tryz.ntmps53
 go_wp2
 go_loopg [8] n (fun g i wr=>∃ j:Nat,j≤n∧g=n - j∧i=.int .i64 j∧w=wr)
 case atStart=>exact⟨0,Nat.zero_le _,rfl,rfl,rfl⟩
 case round =>
  obtain⟨j,hj,rfl,rfl,rfl⟩:=hrel
  by_cases hlt:j<n
  ·obtain⟨b,off,rfl,ca⟩:=hA.adr (by omega)
   have g0:=ca j hlt;clear ca hA;have hf:Hid (zat (Z j)=false):=h.out j hlt;go_wp2_with (go_at_call 101;refine(zkg _ _ _ hf.out).mono ?_;rintro e w' ⟨rfl,rfl⟩)
   go_roundg (n - (j+1))
   case measure=>omega
   case rel=>exact⟨j+1,hlt,rfl,by go_num,rfl⟩
  ·go_wp2
   go_ret
   exact⟨rfl,rfl⟩
theorem zdw{k:IntKind}{a b:Int}(h:a=b):Ending.returned (.int k a)=.returned (.int k b):=by rw[h]
set_option maxHeartbeats 400000 in
theorem zei(A:Option Addr)(n c:Nat)(Z:Nat→Int)(d:Int)(w:World)(hA:Rd w A n Z):
  Calls Tryz.prog 72 #[.slice A n c,.int .i64 d] w fun e w'=>e=.returned (.int .i64 (zae n Z d))∧w'=w:=by
 have hn:=hA.small;rcases zld n Z with ⟨k,hk,hb,h⟩ | h
 ·have e0:Hid (zae n Z d=k):=zeo hk hb h
  replace hb:Hid (zat (Z k)=true):=hb;replace h:Hid (∀ j,j<k→zat (Z j)=false):=h
  go_enter Tryz.func72,Tryz.ntmps72
  go_wp2_with (go_at_call 53;refine(zsc _ _ _ _ _ hA k hk hb.out h.out).mono ?_;rintro e w' ⟨rfl,rfl⟩)
  go_ret
  exact⟨zdw e0.out.symm,rfl⟩
 ·have e0:Hid (zae n Z d=if (n:Int)=d then -1 else max (min d n) 0):=zdc h
  replace h:Hid (∀ j,j<n→zat (Z j)=false):=h
  by_cases hd:(n:Int)=d
  ·subst hd
   replace e0:=e0.out;rw[if_pos rfl] at e0;replace e0:Hid (zae n Z n = -1):=e0
   go_enter Tryz.func72,Tryz.ntmps72
   go_wp2_with (go_at_call 53;refine(zne _ _ _ _ _ hA h.out).mono ?_;rintro e w' ⟨rfl,rfl⟩)
   go_ret
   exact⟨zdw e0.out.symm,rfl⟩
  ·replace e0:=e0.out
   rw[if_neg hd] at e0;have hdb:((n:Int)== d)=false:=beq_eq_false_iff_ne.2 hd;replace hd:Hid (¬(n:Int)=d):=hd;replace e0:Hid (zae n Z d=max (min d n) 0):=e0
   go_enter Tryz.func72,Tryz.ntmps72
   go_wp2_with (go_at_call 53;refine(zne _ _ _ _ _ hA h.out).mono ?_;rintro e w' ⟨rfl,rfl⟩)
   all_goals
    go_ret
    exact⟨zdw (by rw[e0.out];omega),rfl⟩
theorem zin{x:Int}(h:zat x=false):0≤x∧x≤1099511627776:=by
 unfold zat at h;rw[decide_eq_false_iff_not] at h;omega
theorem zyg{x:Int}(h:zat x=true):x<0∨1099511627776<x:=by
 unfold zat at h;exact of_decide_eq_true h
set_option maxHeartbeats 400000 in
theorem zeg(A:Option Addr)(n c:Nat)(Z:Nat→Int)(d:Int)(w:World)(hA:Rd w A n Z):
  Calls Tryz.prog 10 #[.slice A n c,.int .i64 d] w fun e w'=>e=.returned (.int .i64 (zae n Z d))∧w'=w:=by
 have hn:=hA.small;rcases zld n Z with ⟨k,hk,hb,h⟩ | h
 ·have e0:Hid (zae n Z d=k):=zeo hk hb h
  replace hb:Hid (zat (Z k)=true):=hb;replace h:Hid (∀ j,j<k→zat (Z j)=false):=h
  go_enter Tryz.func10,Tryz.ntmps10
  go_wp2
  go_loopg [5] n (fun g i wr=>∃ j:Nat,j≤k∧g=n - j∧i=.int .i64 j∧w=wr)
  case atStart=>exact⟨0,Nat.zero_le _,rfl,rfl,rfl⟩
  case round =>
   obtain⟨j,hj,rfl,rfl,rfl⟩:=hrel;obtain⟨b,off,rfl,ca⟩:=hA.adr (by omega)
   have hjn:j<n:=by omega
   have g0:=ca j hjn;clear ca hA
   by_cases hlt:j<k
   ·obtain⟨f1,f2⟩:=zin (h.out j hlt)
    go_wp2;go_roundg (n - (j+1))
    case measure=>omega
    case rel=>exact⟨j+1,hlt,rfl,by go_num,rfl⟩
   ·obtain rfl:j=k:=by omega
    rcases zyg hb.out with f | f
    ·go_wp2
     go_ret
     exact⟨zdw e0.out.symm,rfl⟩
    ·have f':¬Z j<0:=by omega
     go_wp2;go_ret
     exact⟨zdw e0.out.symm,rfl⟩
 ·have e0:Hid (zae n Z d=if (n:Int)=d then -1 else max (min d n) 0):=zdc h
  replace h:Hid (∀ j,j<n→zat (Z j)=false):=h
  go_enter Tryz.func10,Tryz.ntmps10
  go_wp2
  go_loopg [5] n (fun g i wr=>∃ j:Nat,j≤n∧g=n - j∧i=.int .i64 j∧w=wr)
  case atStart=>exact⟨0,Nat.zero_le _,rfl,rfl,rfl⟩
  case round =>
   obtain⟨j,hj,rfl,rfl,rfl⟩:=hrel
   by_cases hlt:j<n
   ·obtain⟨b,off,rfl,ca⟩:=hA.adr (by omega)
    have g0:=ca j hlt;clear ca hA;obtain⟨f1,f2⟩:=zin (h.out j hlt);go_wp2;go_roundg (n - (j+1))
    case measure=>omega
    case rel=>exact⟨j+1,hlt,rfl,by go_num,rfl⟩
   ·by_cases hd:(n:Int)=d
    ·subst hd
     replace e0:=e0.out;rw[if_pos rfl] at e0;replace e0:Hid (zae n Z n = -1):=e0;go_wp2;go_ret
     exact⟨zdw e0.out.symm,rfl⟩
    ·replace e0:=e0.out
     rw[if_neg hd] at e0;have hdb:((n:Int)== d)=false:=beq_eq_false_iff_ne.2 hd;replace hd:Hid (¬(n:Int)=d):=hd;replace e0:Hid (zae n Z d=max (min d n) 0):=e0
     by_cases d0:d<0
     ·go_wp2
      go_ret
      exact⟨zdw (by rw[e0.out];omega),rfl⟩
     ·by_cases d1:d<n
      ·go_wp2
       go_ret
       exact⟨zdw (by rw[e0.out];omega),rfl⟩
      ·go_wp2
       go_ret
       exact⟨zdw (by rw[e0.out];omega),rfl⟩
end Go.Proofs.YtihjgcibpfajkaaGreatDoor.V12
