/-
  What the law's Build is about: places; a new cluster beside blocks of others; nodes and pods added to both clusters. No condition, no walk of Build.
  The law's Build: a cluster of nodes and pods, and that of the reference. Condition: errors.errorType holds its own.
  The load as a sum; the reference's Of and Fits over the lists of a cluster; the contracts of package load (ConL). No walk.
  What the law's fixed example comes to. No condition, no walk.
  What the laws of load want beside the contracts. No condition, no walk.
  Victims: the lower pods in order, and who of them must go; the contracts of package victims (ConV). No walk.
  The reference's Compare and Lower of layer 6. Conditions: priorities up to 2^30; at most 1000 pods.
-/
import Derived.Test.YtcogiogjpbkeaaaGreatDoorJ0
import Derived.Test.YtcogiogjpbkeaaaGreatDoorJ15
import Derived.Test.YtcogiogjpbkeaaaGreatDoorJ12
namespace Go.Proofs.YtcogiogjpbkeaaaGreatDoor.T15
open Go.RowKit Go.Sort Go.Lib V12 T13 T14
structure PlV where
 x:zaa
 nd:Int
 A:Option Addr
 n:Nat
 c:Nat
 V:Nat->Int
def PlV.arr(o:PlV):Array Value:=#[.int .i64 o.x.k,.int .i64 o.x.p,.bool o.x.f,.int .i64 o.x.g,.slice o.x.A o.x.m o.x.c,.int .i64 o.x.a,.int .i64 o.x.h,.int .i64 o.x.d,.int .i64 o.x.t,.int .i64 o.nd,.slice o.A o.n o.c]
structure zrd(w:World)(o:PlV):Prop where
 x:zah w o.x
 n:I64 o.nd
 v:Rd w o.A o.n o.V
 nil:o.A=none->o.n=0/\o.c=0
theorem zrd.keep{w w':World}{o:PlV}(h:zrd w o)(k:Keep w w'):zrd w' o:=⟨h.x.keep k,h.n,h.v.keep k,h.nil⟩
structure zmf(w:World)(b o:Nat)(v:PlV):Prop where
 x:zcr w b o v.x
 n:w.cell? ⟨b,o+9,none⟩=some (.int .i64 v.nd)
 v:w.cell? ⟨b,o+10,none⟩=some (.slice v.A v.n v.c)
theorem zmf.keep{w w':World}{b o:Nat}{v:PlV}(h:zmf w b o v)(k:Keep w w'):zmf w' b o v:=⟨h.x.keep k,k.cell h.n,k.cell h.v⟩
theorem zgk{w:World}{b:Nat}{v:PlV}{T:TypeId}(h:w.heap[b]?=some (.cells v.arr T (0,0))):zmf w b 0 v:=by
 have c:∀ i u,v.arr[i]?=some u->w.cell? ⟨b,i,none⟩=some u:=fun i u hu=>by rw[cell_of_row w b i _ _ _ h];exact hu
 exact⟨⟨c 0 _ rfl,c 1 _ rfl,c 2 _ rfl,c 3 _ rfl,c 4 _ rfl,c 5 _ rfl,c 6 _ rfl,c 7 _ rfl,c 8 _ rfl⟩,c 9 _ rfl,c 10 _ rfl⟩
structure zob(w:World)(A:Option Addr)(n:Nat)(P:Nat->PlV):Prop where
 small:n<=9223372036854775807
 adr:0<n->∃ b off,A=some ⟨b,off,none⟩/\∀ j,j<n->zmf w b (off+j * 11) (P j)
 is:∀ j,j<n->zrd w (P j)
theorem zob.keep{w w':World}{A:Option Addr}{n:Nat}{P:Nat->PlV}(h:zob w A n P)(k:Keep w w'):zob w' A n P :=
 ⟨h.small,fun hn=>by
  obtain⟨b,off,e,c⟩:=h.adr hn
  exact⟨b,off,e,fun j hj=>(c j hj).keep k⟩,fun j hj=>(h.is j hj).keep k⟩
theorem amt(b off n cp j:Nat)(hj:j<n)(W:World):(Instr.indexAt 23 (.slice (some ⟨b,off,none⟩) n cp) (.int .i64 j)).run Tryz.prog W=.ok (.pointer (some ⟨b,off+j * 11,none⟩)) W:=by
 go_simp
theorem amh(b off n cp j:Nat)(hj:j<n)(W:World):(Instr.indexAt 43 (.slice (some ⟨b,off,none⟩) n cp) (.int .i64 j)).run Tryz.prog W=.ok (.pointer (some ⟨b,off+j,none⟩)) W:=by
 go_simp
def zhj(CS:zbn):Prop:=∀ (d:Nat) (w w0:World) (X:Nat->Prop),Keep w w0->(∀ i,X i->i<w0.heap.size)->d<=64->Calls Tryz.prog 26 #[.int .i64 d] w0 fun e w'=>∃ q,e=.returned (.pointer (some ⟨q,0,none⟩))/\CS w d q [] [] X w'/\Keep w0 w'
section
variable{CS:zbn}{F G:List (Nat × Obj)}{w:World}{d q:Nat}{M M2:List NV}{L L2:List zaa}{X:Nat->Prop}{w1 w4 w5 w6:World}{x x':RcV}{Q Q':Nat->C14.NdC}{P P':Nat->zaa}
theorem adv(C:Con CS){b:Nat}{o:Obj}(h:CS w d q [] [] (fun i=>i=b) w1)(hb:w1.heap[b]?=some o)(hw:w.heap.size<=b):St (Bf CS [(b,o)]) w d q [] [] (fun _=>False) w1 ⟨d,none,0,0,none,0,0⟩ (fun _=>C14.zp) (fun _=>zaf):=by
 refine St.new ⟨C.less h ?_,fun i o' hi=>?_⟩ _ rfl
 ·rintro i (hi | ⟨o',hi⟩)
  ·exact hi.elim
  ·cases List.mem_singleton.1 hi
   rfl
 ·cases List.mem_singleton.1 hi
  exact⟨hb,fun e=>e,hw⟩
theorem adw(C:Con CS)(h:St (Bf CS F) w d q M L X w1 x Q P)(k4:Keep w1 w4)(xd:x'.d=d)(rn:C14.RN w (fun i=>X i\/(w1.heap.size<=i/\i<w4.heap.size)) w4 x'.A x'.c x'.n Q')(em:(C14.lst Q' x'.n).map nv=M2)(dn:∀ j,j<x'.n->(Q' j).n=d)(rl:RL w (fun i=>X i\/(w1.heap.size<=i/\i<w4.heap.size)) w4 x'.B x'.e x'.m P')(el:(T13.lst P' x'.m).map nm=L2)
  (kw:Keep w w5) (hs:w4.heap.size<=w5.heap.size) (hf:∀ k,(∀ o,(k,o)∉F)->w5.heap[k]?=w4.heap[k]?) (hG:∀ i o,(i,o)∈G->w5.heap[i]?=some o/\∃ o',(i,o')∈F) :
  Bf CS G w d q M L (fun i=>X i\/(w1.heap.size<=i/\i<w4.heap.size)) w5/\∀ w6,Bf CS G w d q M2 L2 (fun i=>X i\/(w1.heap.size<=i/\i<w4.heap.size)) w6->zbe (fun i=>X i\/(w1.heap.size<=i/\i<w4.heap.size)) w5 w6->St (Bf CS G) w d q M2 L2 (fun i=>X i\/(w1.heap.size<=i/\i<w4.heap.size)) w6 x' Q' P':=by
 have CF:Con (Bf CS F):=zel C;have CG:Con (Bf CS G):=zel C;have o4:=CF.more h.o k4 fun i hi=>hi
 have fx:∀ i,(X i\/(w1.heap.size<=i/\i<w4.heap.size))->w5.heap[i]?=w4.heap[i]?:=fun i hi=>hf i fun o ho=>(o4.2 i o ho).2.1 hi
 refine⟨⟨C.less (C.write o4.1 kw hs fun k _ hk=>hf k fun o ho=>hk (Or.inr ⟨o,ho⟩)) ?_,?_⟩,fun w6 o6 sx=>⟨o6,xd,(rn.same fx).same sx,em,dn,(rl.same kw fx).same (CG.kp o6) sx,el⟩⟩
 ·rintro i (hi | ⟨o,hi⟩)
  ·exact Or.inl hi
  ·exact Or.inr (hG i o hi).2
 ·intro i o hi
  obtain⟨h1,o',h2⟩:=hG i o hi;exact⟨h1,(o4.2 i o' h2).2⟩
theorem ald(C:Con CS)(h:St CS w d q M L X w1 x Q P)(hn:x.n<=100)(y:C14.NdC)(hy:Rd w y.A y.n y.C)(hnil:y.A=none->y.n=0/\y.c=0)(hk:I64 y.k){W:World}(k:Keep w1 W):
  Calls Tryz.prog 27 #[x.val,y.val] W fun e' w'=>∃ x' Q',e'=.returned (.tuple #[(x':RcV).val,.int .i64 (adC M d y.k y.n y.C),.int .i64 (wrI d y.n y.C)])/\Keep w1 w'/\x'.d=d/\(x'.B=x.B/\x'.m=x.m/\x'.e=x.e) /\
   C14.RN w (fun i=>X i\/(w1.heap.size<=i/\i<w'.heap.size)) w' x'.A x'.c x'.n Q'/\(C14.lst Q' x'.n).map nv=adL M d y.k y.n y.C/\∀ j,j<x'.n->(Q' j).n=d:=by
 obtain⟨xd,xA,xn,xc,xB,xm,xe⟩:=x;obtain rfl:xd=(d:Int):=h.xd;have kw:=C.kp h.o;refine(C14.rc_add d xA xn xc xB xm xe (h.rn.keep k) h.em (C.ok h.o).srt y.k y.A y.n y.c y.C hy hnil hk (kw.trans k) hn).mono ?_;rintro e' w' ⟨A',c',n',P',h1,h2,h3,h4,h5⟩;exact⟨⟨d,A',n',c',xB,xm,xe⟩,P',h1,k.trans h2,rfl,⟨rfl,rfl,rfl⟩,h3.less fun i hi=>hi.imp (fun e=>e) fun e=>⟨Nat.le_trans k.size e.1,e.2⟩,h4,h5 h.dn⟩
theorem alh(C:Con CS)(h:St CS w d q M L X w1 x Q P)(hm:x.m<=1000)(y:zaa)(hy:zah w y){W:World}(k:Keep w1 W):
  Calls Tryz.prog 29 #[x.val,y.val] W fun e' w'=>∃ x' P',e'=.returned (.tuple #[(x':RcV).val,.int .i64 (sbC L d y),.int .i64 (wrI d y.m y.Z)])/\Keep w1 w'/\x'.d=d/\(x'.A=x.A/\x'.n=x.n/\x'.c=x.c) /\
   RL w (fun i=>X i\/(w1.heap.size<=i/\i<w'.heap.size)) w' x'.B x'.e x'.m P'/\(T13.lst P' x'.m).map nm=sbL L d y:=by
 obtain⟨xd,xA,xn,xc,xB,xm,xe⟩:=x;obtain rfl:xd=(d:Int):=h.xd;have kw:=C.kp h.o;refine(zyx d xA xn xc xB xm xe (h.rl.keep k) h.el y hy (kw.trans k) (fun i hi=>Nat.lt_of_lt_of_le (C.lt h.o i hi) k.size) hm).mono ?_
 rintro e' w' ⟨B',c',n',P',h1,h2,h3,h4,_⟩;exact⟨⟨d,xA,xn,xc,B',n',c'⟩,P',h1,k.trans h2,rfl,⟨rfl,rfl,rfl⟩,h3.less fun i hi=>hi.imp (fun e=>e) fun e=>⟨Nat.le_trans k.size e.1,e.2⟩,h4⟩
end
end Go.Proofs.YtcogiogjpbkeaaaGreatDoor.T15
namespace Go.Proofs.YtcogiogjpbkeaaaGreatDoor.T15
open Go.RowKit Go.Sort Go.Lib V12 T13 T14
end Go.Proofs.YtcogiogjpbkeaaaGreatDoor.T15
namespace Go.Proofs.YtcogiogjpbkeaaaGreatDoor.T16
open Go.RowKit Go.Sort Go.Lib V12 T13 T14 T15
def smF(f:zaa->Int):List zaa->Int
 | []=>0
 | y :: L=>f y+smF f L
theorem alm{f g:zaa->Int}{L:List zaa}(h:∀ y∈L,f y<=g y):smF f L<=smF g L:=by
 induction L with
 | nil=>exact Int.le_refl _
 | cons y L ih =>
   have h1:=h y (by simp)
   have h2:=ih fun z hz=>h z (by simp[hz])
   show f y+smF f L<=g y+smF g L
   omega
theorem zkx{f g:zaa->Int}{L:List zaa}(h:∀ y∈L,f y=g y):smF f L=smF g L:=by
 induction L with
 | nil=>rfl
 | cons y L ih =>
   show f y+smF f L=g y+smF g L
   rw[h y (by simp),ih fun z hz=>h z (by simp[hz])]
theorem aih(f:zaa->Int)(t:zaa->zaa)(L:List zaa):smF f (L.map t)=smF (fun y=>f (t y)) L:=by
 induction L with
 | nil=>rfl
 | cons y L ih =>
   show f (t y)+smF f (L.map t)=f (t y)+smF (fun y=>f (t y)) L
   rw[ih]
def ldF(O:Int->Bool)(p:zaa)(nd:Int)(j:Nat)(y:zaa):Int:=(if O y.k=true then 0 else zbm nd j y)+(if zcj p nd y=true then y.Z j else 0)
theorem zex(O:Int->Bool)(p:zaa)(nd:Int)(L:List zaa)(j:Nat):zbo O p nd L j=smF (ldF O p nd j) L:=by
 induction L with
 | nil=>rfl
 | cons y L ih =>
   show _=ldF O p nd j y+smF (ldF O p nd j) L
   rw[<- ih];unfold zbo zej zbt ldF;rw[List.filter_cons,List.filter_cons];cases O y.k<;>cases zcj p nd y<;>simp only[Bool.not_true,Bool.not_false,if_true,if_false,Bool.false_eq_true]<;>(try simp only[zam,zbs])<;>omega
def ofZ(O:Int->Bool)(p:zaa)(nd:Int)(M:List NV)(L:List zaa)(j:Nat):Int:=if nd∈nk M then zbo O p nd L j else 0
def zcc(O:Int->Bool)(p:zaa)(nd:Int)(M:List NV)(L:List zaa)(d:Nat):Bool:=decide (nd∈nk M/\¬0<=zak p.m p.Z d/\∀ k,k<d->zbo O p nd L k+p.Z k<=(nget M nd).C k)
def no:Int->Bool:=fun _=>false
def zjc(p:zaa)(nd:Int)(M:List NV)(d:Nat):Bool:=decide (nd∈nk M/\¬0<=zak p.m p.Z d)
def zcq(w:World)(A:Option Addr)(n:Nat)(O:Int->Bool):Prop:=∃ Z:Nat->Int,Rd w A n Z/\∀ k,O k=true↔∃ j,j<n/\Z j=k
theorem zcq.keep{w w':World}{A:Option Addr}{n:Nat}{O:Int->Bool}(h:zcq w A n O)(k:Keep w w'):zcq w' A n O:=by
 obtain⟨Z,h1,h2⟩:=h;exact⟨Z,h1.keep k,h2⟩
theorem zcq.nil(w:World)(A:Option Addr):zcq w A 0 no:=⟨fun _=>0,⟨by omega,fun _ h=>absurd h (Nat.not_lt_zero _),fun h=>absurd h (Nat.lt_irrefl _)⟩,fun k=>⟨fun h=>absurd (show false=true from h) (by decide),fun ⟨j,h,_⟩=>absurd h (Nat.not_lt_zero _)⟩⟩
def Row(w:World)(v:Value)(d:Nat)(Z:Nat->Int):Prop:=∃ A c,v=.slice A d c/\Rd w A d Z
theorem Row.keep{w w':World}{v:Value}{d:Nat}{Z:Nat->Int}(h:Row w v d Z)(k:Keep w w'):Row w' v d Z:=by
 obtain⟨A,c,h1,h2⟩:=h;exact⟨A,c,h1,h2.keep k⟩
theorem Row.same{w w':World}{v:Value}{d:Nat}{Z:Nat->Int}(h:Row w v d Z)(e:∀ g,v.ownBlock=some g->w'.heap[g]?=w.heap[g]?):Row w' v d Z:=by
 obtain⟨A,c,rfl,h2⟩:=h;refine⟨A,c,rfl,h2.small,h2.range,fun hn=>?_⟩
 obtain⟨g,o,rfl,hc⟩:=h2.adr hn;exact⟨g,o,rfl,fun j hj=>(World.cell?_of_block (e g rfl)).trans (hc j hj)⟩
structure zqz(CS:zbn):Prop where
 of:∀ {w d q M L X w1} (p:zaa) (nd:Int) (A:Option Addr) (n c:Nat) (O:Int->Bool),CS w d q M L X w1->zbk w1->zah w1 p->I64 nd->zcq w1 A n O->n<=200->d<=64->M.length<=100->L.length<=100 ->
  Calls Tryz.prog 87 #[.pointer (some ⟨q,0,none⟩),p.val,.int .i64 nd,.slice A n c] w1 fun e w'=>∃ v,e=.returned v/\Row w' v d (ofZ O p nd M L)/\(∀ g,v.ownBlock=some g->w1.heap.size<=g)/\Keep w1 w'
 fits:∀ {w d q M L X w1} (p:zaa) (nd:Int) (A:Option Addr) (n c:Nat) (O:Int->Bool),CS w d q M L X w1->zbk w1->zah w1 p->I64 nd->zcq w1 A n O->n<=200->d<=64->p.m<=1000->M.length<=100->L.length<=100 ->
  Calls Tryz.prog 24 #[.pointer (some ⟨q,0,none⟩),p.val,.int .i64 nd,.slice A n c] w1 fun e w'=>e=.returned (.bool (zcc O p nd M L d))/\Keep w1 w'
 none:∀ (p:zaa) (nd:Int) (A:Option Addr) (n c:Nat) (w1:World),Calls Tryz.prog 24 #[.pointer none,p.val,.int .i64 nd,.slice A n c] w1 fun e w'=>e=.returned (.bool false)/\Keep w1 w'
theorem agu(O:Int->Bool)(p:zaa)(nd:Int)(P:Nat->zaa)(m j:Nat):zbo O p nd ((T13.lst P m).map nm) j=zbo O p nd (T13.lst P m) j:=by
 rw[zex,zex,aih];exact zkx fun y _=>rfl
section
variable{CS:zbn}{w:World}{d q:Nat}{M:List NV}{L:List zaa}{X:Nat->Prop}{w1:World}{x:RcV}{Q:Nat->C14.NdC}{P:Nat->zaa}
theorem alq(C:Con CS)(h:St CS w d q M L X w1 x Q P):∀ j,j<x.m->(P j).m=d/\∀ k,k<d->Amt ((P j).Z k):=fun j hj=>by
 have h1:nm (P j)∈L:=by rw[<- h.el];exact List.mem_map_of_mem (lst_mem.2 ⟨j,hj,rfl⟩)
 exact(C.ok h.o).req (nm (P j)) h1
theorem zxg(h:St CS w d q M L X w1 x Q P)(O:Int->Bool)(p:zaa)(nd:Int)(j:Nat):zbo O p nd (T13.lst P x.m) j=zbo O p nd L j:=by
 rw[<- h.el,agu]
theorem zjv(C:Con CS)(h:St CS w d q M L X w1 x Q P)(hd:d<=64)(hl:L.length<=100)(p:zaa)(hp:zah w1 p)(nd:Int)(A:Option Addr)(n c:Nat)(O:Int->Bool)(hS:zcq w1 A n O):
  Calls Tryz.prog 21 #[x.val,p.val,.int .i64 nd,.slice A n c] w1 fun e w'=>e=.returned (.bool (zcc O p nd M L d))/\Keep w1 w':=by
 obtain⟨Z,hZ,hO⟩:=hS;refine(zvb x d h.xd hd p nd A n c Z O hO Q P w1 (h.rdc C) h.dn h.rl.rd (by rw[<- h.lenL];exact hl) (alq C h) hZ hp).mono ?_
 rintro e w' ⟨rfl,k⟩;refine⟨?_,k⟩;have e1:zru O p nd (C14.lst Q x.n) (T13.lst P x.m) d=zcc O p nd M L d:=by
  unfold zru zcc;rw[decide_eq_decide];have hk:nd∈C14.keys (C14.lst Q x.n)↔nd∈nk M:=by rw[<- h.em,zmu]
  constructor
  ·rintro⟨h1,h2,h3⟩
   refine⟨hk.1 h1,h2,fun k hkd=>?_⟩
   obtain⟨i,hi,e2,e3⟩:=zqj h.em (C.ok h.o).srt (hk.1 h1);rcases C14.find_cases Q nd x.n with ⟨f1,_⟩ | ⟨j,_,f1,_,_,f2⟩
   ·omega
   ·have:i=j:=by omega
    subst this;have:=h3 k hkd;rw[f2,zxg h] at this;rw[e3];exact this
  ·rintro⟨h1,h2,h3⟩
   refine⟨hk.2 h1,h2,fun k hkd=>?_⟩
   obtain⟨i,hi,e2,e3⟩:=zqj h.em (C.ok h.o).srt h1;rcases C14.find_cases Q nd x.n with ⟨f1,_⟩ | ⟨j,_,f1,_,_,f2⟩
   ·omega
   ·have:i=j:=by omega
    subst this;have:=h3 k hkd;rw[f2,zxg h];rw[e3] at this;exact this
 rw[e1]
end
end Go.Proofs.YtcogiogjpbkeaaaGreatDoor.T16
namespace Go.Proofs.YtcogiogjpbkeaaaGreatDoor.T15
open Go.RowKit Go.Sort Go.Lib V12 T13 T14
def zn(z:Int):Nat->Int:=fun _=>z
def lq(k p z:Int)(A:Option Addr)(c:Nat):zaa:=⟨k,p,false,0,A,1,c,zn z,0,0,0,0⟩
def lc(k p z a h d:Int):zaa:=⟨k,p,false,0,none,1,0,zn z,a,h,d,-1⟩
theorem zve{w:World}{b:Nat}{z:Int}{T:TypeId}(h:w.heap[b]?=some (.cells #[.int .i64 z] T (0,0)))(hz:-9223372036854775808<=z/\z<=9223372036854775807):Rd w (some ⟨b,0,none⟩) 1 (zn z):=by
 refine⟨by omega,fun _ _=>hz,fun _=>⟨b,0,rfl,fun j hj=>?_⟩⟩
 obtain rfl:j=0:=by omega
 rw[Nat.zero_add,cell_of_row w b 0 _ _ _ h];rfl
theorem ajc{w:World}{A:Option Addr}{c:Nat}{k p z:Int}(hk:I64 k)(hp:I64 p)(h:Rd w A 1 (zn z))(ha:A≠none):zah w (lq k p z A c):=⟨h,fun e=>absurd e ha,hk,hp,(zcb w).rng.1,(zcb w).rng.1,(zcb w).rng.1,(zcb w).rng.1,(zcb w).rng.1⟩
theorem akm{L:List zaa}{k p z:Int}{A:Option Addr}{c:Nat}(hz:0<=z/\z<=1099511627776)(hk:k∉keys L)(hl:L.length<=100):sbC L 1 (lq k p z A c)=0/\wrI 1 (lq k p z A c).m (lq k p z A c).Z=0/\sbL L 1 (lq k p z A c)=L++[lc k p z L.length 1 (-1)]:=by
 have h0:¬0<=zak 1 (zn z) ((1:Nat):Int):=by
  rw[zeb fun j hj=>?_,if_pos rfl]
  ·decide
  ·unfold zbg zn
   exact decide_eq_false (by omega)
 have h1:zez L 65536 (lq k p z A c)=0:=by
  unfold zez;rw[if_neg (show ¬(lq k p z A c).k∈keys L from hk),if_neg (by omega)]
 refine⟨?_,?_,?_⟩
 ·unfold sbC
  rw[show(lq k p z A c).m=1 from rfl,show(lq k p z A c).Z=zn z from rfl,if_neg h0]
  exact h1
 ·unfold wrI
  rw[show(lq k p z A c).m=1 from rfl,show(lq k p z A c).Z=zn z from rfl,if_neg h0]
 ·unfold sbL
  rw[show(lq k p z A c).m=1 from rfl,show(lq k p z A c).Z=zn z from rfl,if_neg h0]
  unfold zfs;rw[if_pos h1];rfl
theorem akj{M:List NV}{k z:Int}(hz:0<=z/\z<=1099511627776)(hk:k∉nk M)(hl:M.length<=100):adC M 1 k 1 (zn z)=0/\wrI 1 1 (zn z)=0/\adL M 1 k 1 (zn z)=G.ins NV.k ⟨k,zn z⟩ M:=by
 have h0:¬0<=zak 1 (zn z) ((1:Nat):Int):=by
  rw[zeb fun j hj=>?_,if_pos rfl]
  ·decide
  ·unfold zbg zn
   exact decide_eq_false (by omega)
 have h1:adC M 1 k 1 (zn z)=0:=by
  unfold adC;rw[if_neg h0,if_neg hk,if_neg (by omega)]
 refine⟨h1,?_,?_⟩
 ·unfold wrI
  rw[if_neg h0]
 ·unfold adL
  rw[if_pos h1]
section
variable{CS:zbn}{w w1:World}{q:Nat}{M:List NV}{L:List zaa}{X:Nat->Prop}
theorem afj(C:Con CS)(h:CS w 1 q M L X w1)(hg:zbk w){b:Nat}{k z:Int}{T:TypeId}(hb:w1.heap[b]?=some (.cells #[.int .i64 z] T (0,0)))(hk:I64 k)(hz:0<=z/\z<=1099511627776)(hn:k∉nk M)(hl:M.length<=100):
  Calls Tryz.prog 28 #[.pointer (some ⟨q,0,none⟩),.agg #[.int .i64 k,.slice (some ⟨b,0,none⟩) 1 1]] w1 fun e w'=>e=.returned .nilIface/\CS w 1 q (G.ins NV.k ⟨k,zn z⟩ M) L X w':=by
 obtain⟨h1,h2,h3⟩:=akj hz hn hl;refine(C.addNode k (some ⟨b,0,none⟩) 1 1 (zn z) h (hg.keep (C.kp h)) (zve hb (by omega)) (fun e=>by cases e) hk (by omega) hl).mono ?_
 rintro e w' ⟨e1,e2,_⟩;rw[h1,h2] at e1;rw[h3] at e2;exact⟨e1,e2⟩
theorem ztt(C:Con CS)(h:CS w 1 q M L X w1)(hg:zbk w){b:Nat}{k p z:Int}{T:TypeId}(hb:w1.heap[b]?=some (.cells #[.int .i64 z] T (0,0)))(hk:I64 k)(hp:I64 p)(hz:0<=z/\z<=1099511627776)(hn:k∉keys L)(hl:L.length<=100):
  Calls Tryz.prog 30 #[.pointer (some ⟨q,0,none⟩),.agg #[.int .i64 k,.int .i64 p,.bool false,.int .i64 0,.slice (some ⟨b,0,none⟩) 1 1,.int .i64 0,.int .i64 0,.int .i64 0,.int .i64 0]] w1 fun e w'=>∃ r:zaa,e=.returned (.tuple #[r.val,.nilIface])/\CS w 1 q M (L++[lc k p z L.length 1 (-1)]) X w':=by
 obtain⟨h1,h2,h3⟩:=akm (p:=p) (A:=some ⟨b,0,none⟩) (c:=1) hz hn hl;refine(C.submit (lq k p z (some ⟨b,0,none⟩) 1) h (hg.keep (C.kp h)) (ajc hk hp (zve hb (by omega)) (fun e=>by cases e)) (by show(1:Nat)<=1000;omega) hl).mono ?_
 rintro e w' ⟨r,e1,_,_,_,_,e2,_⟩;rw[h1,h2] at e1;rw[h3] at e2;exact⟨r,e1,e2⟩
theorem zps(C:Con CS)(h:CS w 1 q M L X w1)(hg:zbk w)(id nd:Int)(hi:I64 id)(hn:I64 nd)(hm:M.length<=100)(hl:L.length<=100)(hc:plC M L 1 id nd 1=0){L2:List zaa}(e2:zde L id 1 nd (-1)=L2):
  Calls Tryz.prog 32 #[.pointer (some ⟨q,0,none⟩),.int .i64 id,.int .i64 nd] w1 fun e w'=>∃ r:zaa,e=.returned (.tuple #[r.val,.nilIface])/\CS w 1 q M L2 X w':=by
 refine(C.bind id nd h (hg.keep (C.kp h)) hi hn hm hl).mono ?_;rintro e w' ⟨r,h1,_,_,_,_,h3,_⟩;rw[hc] at h1;unfold plL at h3;rw[if_pos hc,e2] at h3;exact⟨r,h1,h3⟩
end
end Go.Proofs.YtcogiogjpbkeaaaGreatDoor.T15
namespace Go.Proofs.YtcogiogjpbkeaaaGreatDoor.T16
open Go.RowKit Go.Sort Go.Lib V12 T13 T14 T15
theorem zzc(n:Nat)(Z:Nat->Int):zfq n Z n Z=true:=decide_eq_true ⟨rfl,fun _ _=>rfl⟩
theorem agt{O O':Int->Bool}{p q:zaa}{nd:Int}{L:List zaa}{j:Nat}(hO:∀ k,O k=true->O' k=true)(hs:∀ y,zcj q nd y=true->zcj p nd y=true)(h:∀ y∈L,Amt (y.Z j)):zbo O' q nd L j<=zbo O p nd L j:=by
 rw[zex,zex];refine alm fun y hy=>?_
 have h0:=(h y hy).1;have h1:=zms (id:=nd) (h y hy);unfold ldF;have a1:(if O' y.k=true then 0 else zbm nd j y)<=(if O y.k=true then 0 else zbm nd j y):=by
  by_cases e:O y.k=true
  ·rw[if_pos e,if_pos (hO _ e)];exact Int.le_refl _
  ·rw[if_neg e]
   split
   ·exact h1
   ·exact Int.le_refl _
 have a2:(if zcj q nd y=true then y.Z j else 0)<=(if zcj p nd y=true then y.Z j else 0):=by
  by_cases e:zcj q nd y=true
  ·rw[if_pos e,if_pos (hs y e)];exact Int.le_refl _
  ·rw[if_neg e]
   split
   ·exact h0
   ·exact Int.le_refl _
 omega
theorem aga{O O':Int->Bool}{p q:zaa}{nd:Int}{M:List NV}{L:List zaa}{d:Nat}(h:∀ k,k<d->zbo O' q nd L k<=zbo O p nd L k)(hz:zcc O p nd M L d=true->¬0<=zak q.m q.Z d/\∀ k,k<d->q.Z k<=p.Z k)(hf:zcc O p nd M L d=true):zcc O' q nd M L d=true:=by
 obtain⟨h1,h2⟩:=hz hf;obtain⟨f1,_,f3⟩:=of_decide_eq_true hf;refine decide_eq_true ⟨f1,h1,fun k hk=>?_⟩
 have a1:=h k hk;have a2:=h2 k hk;have a3:=f3 k hk;omega
end Go.Proofs.YtcogiogjpbkeaaaGreatDoor.T16
namespace Go.Proofs.YtcogiogjpbkeaaaGreatDoor.T18
open Go.RowKit Go.Sort Go.Lib V12 T13 T14 T15 T16
def zqe(p:zaa)(nd:Int)(y:zaa):Bool:=decide (y.d=nd/\y.h=3/\y.p<p.p)
def zeh(y z:zaa):Bool:=decide (z.p<y.p\/(y.p=z.p/\(y.a<z.a\/(y.a=z.a/\y.k<z.k))))
def zqb(y:zaa):List zaa->List zaa
 | []=>[y]
 | z :: L=>if zeh y z=true then y :: z :: L else z :: zqb y L
def zht:List zaa->List zaa
 | []=>[]
 | y :: L=>zqb y (zht L)
def zmh(L:List zaa):Prop:=L.Pairwise fun y z=>zeh y z=true
def zbr(p:zaa)(nd:Int)(L:List zaa):List zaa:=zht (L.filter (zqe p nd))
theorem zko(y:zaa):∀ L,(zqb y L).Perm (y :: L)
 | []=>List.Perm.refl _
 | z :: L=>by
   unfold zqb
   split
   ·exact List.Perm.refl _
   ·exact((zko y L).cons z).trans (List.Perm.swap y z L)
theorem zdj:∀ L:List zaa,(zht L).Perm L
 | []=>List.Perm.refl _
 | y :: L=>(zko y (zht L)).trans ((zdj L).cons y)
theorem zdr{x y z:zaa}(h:zeh x y=true)(k:zeh y z=true):zeh x z=true:=by
 unfold zeh at *;rw[decide_eq_true_iff] at *;omega
theorem afl(x:zaa):zeh x x=false:=decide_eq_false (by omega)
theorem zpv{x y:zaa}(h:x.k≠y.k):zeh x y=true\/zeh y x=true:=by
 unfold zeh;rw[decide_eq_true_iff,decide_eq_true_iff];omega
theorem zsa{y:zaa}:∀ {L:List zaa},zmh L->(∀ z∈L,z.k≠y.k)->zmh (zqb y L)
 | [],_,_=>List.pairwise_singleton _ _
 | z :: L,h,hk=>by
   have h':(z :: L).Pairwise fun y z=>zeh y z=true:=h
   rw[List.pairwise_cons] at h';unfold zqb
   split
   ·rename_i hb
    refine List.pairwise_cons.2 ⟨fun x hx=>?_,h⟩
    rcases List.mem_cons.1 hx with rfl | hx
    ·exact hb
    ·exact zdr hb (h'.1 x hx)
   ·rename_i hb
    refine List.pairwise_cons.2 ⟨fun x hx=>?_,zsa h'.2 fun x hx=>hk x (by simp[hx])⟩
    rcases List.mem_cons.1 ((zko y L).mem_iff.1 hx) with rfl | hx
    ·exact(zpv (hk z (by simp))).resolve_right hb
    ·exact h'.1 x hx
theorem zns:∀ {L:List zaa},(keys L).Nodup->zmh (zht L)
 | [],_=>List.Pairwise.nil
 | y :: L,h=>by
   have h':(y.k :: keys L).Nodup:=h;rw[List.nodup_cons] at h';refine zsa (zns h'.2) fun z hz e=>h'.1 ?_
   rw[<- e];exact List.mem_map_of_mem ((zdj L).mem_iff.1 hz)
theorem znt:∀ {L K:List zaa},zmh L->zmh K->L.Perm K->L=K
 | [],K,_,_,h=>(List.nil_perm.1 h).symm
 | y :: L,[],_,_,h=>absurd h.symm (by simp)
 | y :: L,z :: K,hl,hk,h=>by
   have hl':(y :: L).Pairwise fun y z=>zeh y z=true:=hl
   have hk':(z :: K).Pairwise fun y z=>zeh y z=true:=hk
   rw[List.pairwise_cons] at hl' hk';have e:y=z:=by
    have h1:y∈z :: K:=h.mem_iff.1 (by simp)
    have h2:z∈y :: L:=h.mem_iff.2 (by simp)
    rcases List.mem_cons.1 h1 with e | h1
    ·exact e
    ·rcases List.mem_cons.1 h2 with e | h2
     ·exact e.symm
     ·have:=zdr (hl'.1 z h2) (hk'.1 y h1)
      rw[afl] at this;cases this
   subst e;rw[znt hl'.2 hk'.2 ((List.perm_cons y).1 h)]
def zdx(l:List zaa)(k:Int):Bool:=decide (k∈keys l)
section
variable(p:zaa)(nd:Int)(M:List NV)(L:List zaa)(d:Nat)
def zek:Bool:=zcc (zdx (zbr p nd L)) p nd M L d
def zhd:List zaa->List zaa->List zaa
 | acc,[]=>acc
 | acc,y :: r=>if zcc (zdx (acc++r)) p nd M L d=true then zhd acc r else zhd (acc++[y]) r
def zct:List zaa:=zhd p nd M L d [] (zbr p nd L)
end
section
variable{p:zaa}{nd:Int}{M:List NV}{L:List zaa}{d:Nat}
theorem zkk(ok:Ok d M L){O O':Int->Bool}(h:∀ k,O k=true->O' k=true)(hf:zcc O p nd M L d=true):zcc O' p nd M L d=true :=
 aga (fun _ hj=>agt h (fun _ h=>h) (ok.amtL hj)) (fun hf=>⟨(of_decide_eq_true hf).2.1,fun _ _=>Int.le_refl _⟩) hf
theorem aaq{l r:List zaa}(h:∀ y∈l,y∈r)(k:Int)(hk:zdx l k=true):zdx r k=true:=by
 obtain⟨y,hy,e⟩:=List.mem_map.1 (of_decide_eq_true hk);exact decide_eq_true (by rw[<- e];exact List.mem_map_of_mem (h y hy))
theorem zkc:∀ (l acc:List zaa),zcc (zdx (acc++l)) p nd M L d=true->zcc (zdx (zhd p nd M L d acc l)) p nd M L d=true
 | [],acc,h=>by
   rw[List.append_nil] at h;exact h
 | y :: r,acc,h=>by
   unfold zhd
   split
   ·rename_i hf
    exact zkc r acc hf
   ·refine zkc r (acc++[y]) ?_
    rw[List.append_assoc];exact h
theorem zmd:∀ (l acc:List zaa),∃ s,s.Sublist l/\zhd p nd M L d acc l=acc++s
 | [],acc=>⟨[],List.Sublist.refl _,by unfold zhd;rw[List.append_nil]⟩
 | y :: r,acc=>by
   unfold zhd
   split
   ·obtain⟨s,h1,h2⟩:=zmd r acc
    exact⟨s,h1.cons y,h2⟩
   ·obtain⟨s,h1,h2⟩:=zmd r (acc++[y])
    exact⟨y :: s,h1.cons_cons y,by rw[h2,List.append_assoc];rfl⟩
theorem zqx(ok:Ok d M L):∀ (l acc:List zaa) (s:List zaa),zhd p nd M L d acc l=acc++s->∀ (s1 s2:List zaa) (y:zaa),s=s1++y :: s2->zcc (zdx (acc++(s1++s2))) p nd M L d=false
 | [],acc,s,h,s1,s2,y,e=>by
   unfold zhd at h;have:s=[]:=by
    have:=congrArg List.length h;rw[List.length_append] at this;exact List.eq_nil_of_length_eq_zero (by omega)
   rw[this] at e;exact absurd e.symm (by simp)
 | z :: r,acc,s,h,s1,s2,y,e=>by
   unfold zhd at h
   split at h
   ·exact zqx ok r acc s h s1 s2 y e
   ·rename_i hf
    obtain⟨t,ht,h2⟩:=zmd (p:=p) (nd:=nd) (M:=M) (L:=L) (d:=d) r (acc++[z]);have e3:s=z :: t:=by
     have:acc++s=acc++(z :: t):=by rw[<- h,h2,List.append_assoc];rfl
     exact List.append_cancel_left this
    cases s1 with
    | nil =>
      have e4:z=y/\t=s2:=by
       rw[e3] at e;exact List.cons.inj e
      rw[List.nil_append,<- e4.2];cases hc:zcc (zdx (acc++t)) p nd M L d with
      | false=>rfl
      | true =>
        refine absurd (zkk ok (fun k hk=>aaq (fun x hx=>?_) k hk) hc) hf
        rcases List.mem_append.1 hx with h | h
        ·exact List.mem_append_left _ h
        ·exact List.mem_append_right _ (ht.subset h)
    | cons w s1 =>
      have e4:z=w/\t=s1++y :: s2:=by
       rw[e3] at e;exact List.cons.inj e
      have h5:=zqx ok r (acc++[z]) t h2 s1 s2 y e4.2;rw[<- e4.1];rw[List.append_assoc] at h5;exact h5
theorem aiu(ok:Ok d M L):∀ (l:List zaa),zcc (zdx l) p nd M L d=true->(zhd p nd M L d [] l=[]↔zcc no p nd M L d=true):=by
 have all:∀ (l:List zaa),zcc no p nd M L d=true->zhd p nd M L d [] l=[]:=fun l h=>by
  induction l with
  | nil=>rfl
  | cons y r ih =>
    unfold zhd;rw[if_pos (zkk ok (fun k hk=>by cases hk) h)]
    exact ih
 intro l hl;refine⟨fun h=>?_,all l⟩
 have h1:=zkc (p:=p) (nd:=nd) (M:=M) (L:=L) (d:=d) l [] hl;rw[h] at h1;have e:zdx []=no:=funext fun k=>decide_eq_false (by simp[keys])
 rw[e] at h1;exact h1
end
end Go.Proofs.YtcogiogjpbkeaaaGreatDoor.T18
namespace Go.Proofs.YtcogiogjpbkeaaaGreatDoor.T18
open Go.RowKit Go.Sort Go.Lib V12 T13
def cmpP(x y:zaa):Int:=if -x.p < -y.p then -1 else if -y.p < -x.p then 1 else if x.a<y.a then -1 else if y.a<x.a then 1 else if x.k<y.k then -1 else if y.k<x.k then 1 else 0
theorem afq(x y:zaa):decide (cmpP x y<0)=zeh x y:=by
 unfold cmpP zeh;rw[decide_eq_decide]
 repeat' split
 all_goals omega
def zjo(v:Int)(y:zaa):Bool:=decide (y.p<v)
set_option maxRecDepth 100000 in
set_option maxHeartbeats 8000000 in
theorem zst(x y:zaa)(w:World)(hx:-1073741824<=x.p/\x.p<=1073741824)(hy:-1073741824<=y.p/\y.p<=1073741824):
  Calls Tryz.prog 77 #[x.val,y.val] w fun e w'=>e=.returned (.int .i64 (cmpP x y))/\Gr w w':=by
 have mixed:Tryz.prog.follows .mixedOrders=true:=by kernel_rfl
 obtain⟨r,hr⟩:=Zn (cmpP x y);rw[<- hr];unfold cmpP at hr;replace hr:=Zq hr;have w1:IntKind.i64.wrap (-x.p) = -x.p:=by rw[IntKind.wrap_i64];omega
 have w2:IntKind.i64.wrap (-y.p) = -y.p:=by rw[IntKind.wrap_i64];omega
 unfold zaa.val
 go_enter Tryz.func77,Tryz.ntmps77
 go_upto_region 3 with fail
 have g0:=((((Gr.refl w).alloc (.cells #[.int .i64 x.k,.int .i64 x.p,.bool x.f,.int .i64 x.g,.slice x.A x.m x.c,.int .i64 x.a,.int .i64 x.h,.int .i64 x.d,.int .i64 x.t] 26)).alloc (.cells #[.int .i64 y.k,.int .i64 y.p,.bool y.f,.int .i64 y.g,.slice y.A y.m y.c,.int .i64 y.a,.int .i64 y.h,.int .i64 y.d,.int .i64 y.t] 26)).alloc (.cells #[.int .i64 (-x.p),.int .i64 x.a,.int .i64 x.k] 3)).alloc (.cells #[.int .i64 (-y.p),.int .i64 y.a,.int .i64 y.k] 3);obtain⟨w0,hw0⟩:=Zn ((((w.alloc (.cells #[.int .i64 x.k,.int .i64 x.p,.bool x.f,.int .i64 x.g,.slice x.A x.m x.c,.int .i64 x.a,.int .i64 x.h,.int .i64 x.d,.int .i64 x.t] 26)).alloc (.cells #[.int .i64 y.k,.int .i64 y.p,.bool y.f,.int .i64 y.g,.slice y.A y.m y.c,.int .i64 y.a,.int .i64 y.h,.int .i64 y.d,.int .i64 y.t] 26)).alloc (.cells #[.int .i64 (-x.p),.int .i64 x.a,.int .i64 x.k] 3)).alloc (.cells #[.int .i64 (-y.p),.int .i64 y.a,.int .i64 y.k] 3));have c0:w0.cell? ⟨w.heap.size+1+1,0,none⟩=some (.int .i64 (-x.p)):=by rw[hw0];simp(maxDischargeDepth:=12) [go_sem]
 have c1:w0.cell? ⟨w.heap.size+1+1,1,none⟩=some (.int .i64 x.a):=by rw[hw0];simp(maxDischargeDepth:=12) [go_sem]
 have c2:w0.cell? ⟨w.heap.size+1+1,2,none⟩=some (.int .i64 x.k):=by rw[hw0];simp(maxDischargeDepth:=12) [go_sem]
 have d0:w0.cell? ⟨w.heap.size+1+1+1,0,none⟩=some (.int .i64 (-y.p)):=by rw[hw0];simp(maxDischargeDepth:=12) [go_sem]
 have d1:w0.cell? ⟨w.heap.size+1+1+1,1,none⟩=some (.int .i64 y.a):=by rw[hw0];simp(maxDischargeDepth:=12) [go_sem]
 have d2:w0.cell? ⟨w.heap.size+1+1+1,2,none⟩=some (.int .i64 y.k):=by rw[hw0];simp(maxDischargeDepth:=12) [go_sem]
 rw[<- hw0] at g0 ⊢;replace g0:=Zq g0;replace hw0:=Zq hw0;obtain⟨u,hu⟩:∃ u,u = -x.p:=⟨_,rfl⟩;obtain⟨v,hv⟩:∃ v,v = -y.p:=⟨_,rfl⟩;rw[<- hu] at c0;rw[<- hv] at d0;have hr2:Hid (r=if u<v then -1 else if v<u then 1 else if x.a<y.a then -1 else if y.a<x.a then 1 else if x.k<y.k then -1 else if y.k<x.k then 1 else 0):=by show _=_;rw[hu,hv];exact hr.out
 clear hr;have hr:=hr2;have huv:Hid (u=v->x.p=y.p):=fun h=>by omega
 have hvu:Hid (x.p=y.p->u=v):=fun h=>by omega
 replace hu:=Zq hu;replace hv:=Zq hv;go_wp2
 go_loopg [7] 3 (fun gx s7 wr=>∃ j:Nat,j<=3/\gx=3 - j/\s7=.int .i64 j/\Hid (zbb w0 wr)/\Hid ((0<j->x.p=y.p)/\(1<j->x.a=y.a)/\(2<j->x.k=y.k)))
 case atStart=>exact⟨0,by omega,rfl,rfl,zbb.refl _,⟨fun h=>by omega,fun h=>by omega,fun h=>by omega⟩⟩
 case round =>
  obtain⟨j,hj,rfl,rfl,D,I⟩:=hrel;have e0:=D.out.keep.cell c0;have e1:=D.out.keep.cell c1;have e2:=D.out.keep.cell c2;have f0:=D.out.keep.cell d0;have f1:=D.out.keep.cell d1;have f2:=D.out.keep.cell d2;have gg:Hid (∀ q,Gr w (wr.drewN q)):=fun q=>by
   obtain⟨p,hp⟩:=D.out;rw[hp];exact(g0.out.drewN p).drewN q
  have gg2:Hid (∀ p q,Gr w ((wr.drewN p).drewN q)):=fun p q=>(gg.out p).drewN q
  have dd:Hid (∀ q,zbb w0 (wr.drewN q)):=fun q=>D.out.drewN q
  have dd2:Hid (∀ p q,zbb w0 ((wr.drewN p).drewN q)):=fun p q=>(dd.out p).drewN q
  have gr0:Hid (Gr w wr):=by
   obtain⟨p,hp⟩:=D.out;rw[hp];exact g0.out.drewN p
  obtain rfl | rfl | rfl | rfl:j=0\/j=1\/j=2\/j=3:=by omega
  ·by_cases hlt:u<v
   ·have e:Hid (r = -1):=by show _=_;rw[hr.out,if_pos hlt]
    have hd:decide (u<v)=true:=decide_eq_true hlt;replace hlt:=Zq hlt;go_wp2
    go_quiet (fail)
    go_wp2;go_ret
    exact⟨by rw[e.out];rfl,gg.out _⟩
   ·by_cases hgt:v<u
    ·have e:Hid (r=1):=by show _=_;rw[hr.out,if_neg hlt,if_pos hgt]
     have hd:decide (u<v)=false:=decide_eq_false hlt;have hd2:decide (v<u)=true:=decide_eq_true hgt;replace hlt:=Zq hlt;replace hgt:=Zq hgt;go_wp2
     go_quiet (fail)
     go_wp2
     go_quiet (fail)
     go_wp2;go_ret
     exact⟨by rw[e.out];rfl,by first | exact gg.out _ | exact gg2.out _ _⟩
    ·have e:Hid (x.p=y.p):=huv.out (by omega)
     have hd:decide (u<v)=false:=decide_eq_false hlt;have hd2:decide (v<u)=false:=decide_eq_false hgt;replace hlt:=Zq hlt;replace hgt:=Zq hgt;go_wp2
     go_quiet (fail)
     go_wp2
     go_quiet (fail)
     go_wp2;go_roundg 2
     case measure=>omega
     case rel=>exact⟨1,by omega,rfl,by go_num,by first | exact dd.out _ | exact dd2.out _ _,⟨fun _=>e.out,fun h=>by omega,fun h=>by omega⟩⟩
  ·by_cases hlt:x.a<y.a
   ·have e:Hid (r = -1):=by show _=_;rw[hr.out,if_neg (by have:=hvu.out (I.out.1 (by omega));omega),if_neg (by have:=hvu.out (I.out.1 (by omega));omega),if_pos hlt]
    have hd:decide (x.a<y.a)=true:=decide_eq_true hlt;replace hlt:=Zq hlt;go_wp2
    go_quiet (fail)
    go_wp2;go_ret
    exact⟨by rw[e.out];rfl,gg.out _⟩
   ·by_cases hgt:y.a<x.a
    ·have e:Hid (r=1):=by show _=_;rw[hr.out,if_neg (by have:=hvu.out (I.out.1 (by omega));omega),if_neg (by have:=hvu.out (I.out.1 (by omega));omega),if_neg hlt,if_pos hgt]
     have hd:decide (x.a<y.a)=false:=decide_eq_false hlt;have hd2:decide (y.a<x.a)=true:=decide_eq_true hgt;replace hlt:=Zq hlt;replace hgt:=Zq hgt;go_wp2
     go_quiet (fail)
     go_wp2
     go_quiet (fail)
     go_wp2;go_ret
     exact⟨by rw[e.out];rfl,by first | exact gg.out _ | exact gg2.out _ _⟩
    ·have e:Hid (x.a=y.a):=by show _=_;omega
     have hd:decide (x.a<y.a)=false:=decide_eq_false hlt;have hd2:decide (y.a<x.a)=false:=decide_eq_false hgt;replace hlt:=Zq hlt;replace hgt:=Zq hgt;go_wp2
     go_quiet (fail)
     go_wp2
     go_quiet (fail)
     go_wp2;go_roundg 1
     case measure=>omega
     case rel=>exact⟨2,by omega,rfl,by go_num,by first | exact dd.out _ | exact dd2.out _ _,⟨fun _=>I.out.1 (by omega),fun _=>e.out,fun h=>by omega⟩⟩
  ·by_cases hlt:x.k<y.k
   ·have e:Hid (r = -1):=by show _=_;rw[hr.out,if_neg (by have:=hvu.out (I.out.1 (by omega));omega),if_neg (by have:=hvu.out (I.out.1 (by omega));omega),if_neg (by have:=I.out.2.1 (by omega);omega),if_neg (by have:=I.out.2.1 (by omega);omega),if_pos hlt]
    have hd:decide (x.k<y.k)=true:=decide_eq_true hlt;replace hlt:=Zq hlt;go_wp2
    go_quiet (fail)
    go_wp2;go_ret
    exact⟨by rw[e.out];rfl,gg.out _⟩
   ·by_cases hgt:y.k<x.k
    ·have e:Hid (r=1):=by show _=_;rw[hr.out,if_neg (by have:=hvu.out (I.out.1 (by omega));omega),if_neg (by have:=hvu.out (I.out.1 (by omega));omega),if_neg (by have:=I.out.2.1 (by omega);omega),if_neg (by have:=I.out.2.1 (by omega);omega),if_neg hlt,if_pos hgt]
     have hd:decide (x.k<y.k)=false:=decide_eq_false hlt;have hd2:decide (y.k<x.k)=true:=decide_eq_true hgt;replace hlt:=Zq hlt;replace hgt:=Zq hgt;go_wp2
     go_quiet (fail)
     go_wp2
     go_quiet (fail)
     go_wp2;go_ret
     exact⟨by rw[e.out];rfl,by first | exact gg.out _ | exact gg2.out _ _⟩
    ·have e:Hid (x.k=y.k):=by show _=_;omega
     have hd:decide (x.k<y.k)=false:=decide_eq_false hlt;have hd2:decide (y.k<x.k)=false:=decide_eq_false hgt;replace hlt:=Zq hlt;replace hgt:=Zq hgt;go_wp2
     go_quiet (fail)
     go_wp2
     go_quiet (fail)
     go_wp2;go_roundg 0
     case measure=>omega
     case rel=>exact⟨3,by omega,rfl,by go_num,by first | exact dd.out _ | exact dd2.out _ _,⟨fun _=>I.out.1 (by omega),fun _=>I.out.2.1 (by omega),fun _=>e.out⟩⟩
  ·have e:Hid (r=0):=by show _=_;rw[hr.out,if_neg (by have:=hvu.out (I.out.1 (by omega));omega),if_neg (by have:=hvu.out (I.out.1 (by omega));omega),if_neg (by have:=I.out.2.1 (by omega);omega),if_neg (by have:=I.out.2.1 (by omega);omega),if_neg (by have:=I.out.2.2 (by omega);omega),if_neg (by have:=I.out.2.2 (by omega);omega)]
   go_wp2;go_ret
   exact⟨by rw[e.out];rfl,gr0.out⟩
set_option maxRecDepth 100000 in
set_option maxHeartbeats 4000000 in
theorem zyy(A:Option Addr)(n c:Nat)(P:Nat->zaa)(v:Int)(w:World)(hR:zai w A n P)(hN:n<=1000):
  Calls Tryz.prog 43 #[.slice A n c,.int .i64 v] w (zjd w n ((lst P n).filter (zjo v))):=by
 replace hR:=Zq hR;obtain⟨L,hL⟩:=Zn ((lst P n).filter (zjo v));rw[<- hL];replace hL:=Zq hL
 go_enter Tryz.func43,Tryz.ntmps43
 go_wp2
 go_loopg [5,6] n (fun gx s5 s6 wr=>∃ (j k:Nat) (B:Option Addr) (d:Nat) (M:List zaa),j<=n/\gx=n - j/\s6=.int .i64 j/\s5=.slice B k d/\k<=j/\Hid (Keep w wr)/\Hid (wr.ownsRow w.heap.size 26 9 (.slice B k d) k (M.flatMap zaa.cells))/\Hid (M=(lst P j).filter (zjo v))/\Hid (M.length=k))
 case atStart=>exact⟨0,0,none,0,[],Nat.zero_le _,rfl,rfl,rfl,Nat.le_refl _,Keep.refl _,World.ownsRow_nil _ _ _ _,rfl,rfl⟩
 case round =>
  obtain⟨j,k,B,d,M,hj,rfl,rfl,rfl,hkj,G,RW,LT,LN⟩:=hrel
  by_cases hlt:j<n
  ·have R2:=hR.out.keep G.out
   obtain⟨b,off,hA,ca⟩:=R2.adr (by omega)
   subst hA;have q1:=zar b off n c j hlt;have X:=ca j hlt;clear ca;replace R2:=Zq R2;have hs:(lst P (j+1)).filter (zjo v)=(lst P j).filter (zjo v)++if zjo v (P j)=true then[P j] else[]:=by
    rw[lst_succ,List.filter_append,List.filter_cons,List.filter_nil]
   obtain⟨x,hx⟩:=Zn (P j);rw[<- hx] at X hs;replace hx:=Zq hx;have x0:=X.e0;have x1:=X.e1;have x2:=X.e2;have x3:=X.e3;have x4:=X.e4;have x5:=X.e5;have x6:=X.e6;have x7:=X.e7;have x8:=X.e8;clear X;have gsz:Hid (w.heap.size<=wr.heap.size):=G.out.size
   by_cases hk:zjo v x=true
   ·rw[if_pos hk] at hs
    have L2:Hid (M++[x]=(lst P (j+1)).filter (zjo v)):=by show _=_;rw[hs,LT.out]
    have LN2:Hid ((M++[x]).length=k+1):=by show _=_;rw[List.length_append,LN.out];rfl
    have FM:Hid ((M++[x]).flatMap zaa.cells=M.flatMap zaa.cells++x.cells):=by show _=_;rw[List.flatMap_append,List.flatMap_singleton]
    replace hs:=Zq hs;unfold zjo at hk;rw[decide_eq_true_eq] at hk;go_wp2_with (at_builtin;refine zdz Tryz.tyP13 rfl _ _ rfl w.heap.size (.slice B k d) k (M.flatMap zaa.cells) (by simp[Act.eval]) (zal RW.out (Keep.one _ _)) (.slice (some ⟨wr.heap.size,0,none⟩) 1 1) 1 x.cells (by simp[Act.eval]) (zbh (heap_alloc_new _ _)) (cells_one _) (by omega) (by rw[World.size_alloc];have:=gsz.out;omega) (k+1) rfl ?_;intro v3 w3 hr3 hg3)
    have K3:Hid (Keep w w3):=zad (G.out.trans (Keep.one _ _)) hg3 (fun q hq=>(RW.out.lt q hq).1)
    obtain⟨B4,d4,hB4,_⟩:=zan hr3;subst hB4;rw[<- FM.out] at hr3;replace hr3:=Zq hr3;replace hg3:=Zq hg3;clear x0 x1 x2 x3 x4 x5 x6 x7 x8 q1;go_wp2;go_roundg (n - (j+1))
    case measure=>omega
    case rel=>exact⟨j+1,k+1,B4,d4,M++[x],hlt,rfl,by go_num,rfl,by omega,K3,hr3,L2,LN2⟩
   ·rw[if_neg hk,List.append_nil] at hs
    have L2:Hid (M=(lst P (j+1)).filter (zjo v)):=by show _=_;rw[hs,LT.out]
    replace hs:=Zq hs;unfold zjo at hk;rw[decide_eq_true_eq] at hk;clear x0 x2 x3 x4 x5 x6 x7 x8;go_wp2;go_roundg (n - (j+1))
    case measure=>omega
    case rel=>exact⟨j+1,k,B,d,M,hlt,rfl,by go_num,rfl,by omega,G,RW,L2,LN⟩
  ·obtain rfl:j=n:=by omega
   obtain rfl:M=L:=by rw[hL.out,LT.out]
   have ln:=LN.out;have mem:∀ t,t<M.length->zah wr (row M t):=fun t ht=>by
    have hm:row M t∈M:=by
     unfold row;rw[List.getD_eq_getElem?_getD,List.getElem?_eq_getElem ht];exact List.getElem_mem _
    rw[LT.out,List.mem_filter] at hm;obtain⟨i,hi,e⟩:=lst_mem.1 hm.1;rw[LT.out,<- e];exact(hR.out.is i hi).keep G.out
   have fin:Hid (zai wr B M.length (row M)/\M.length<=j):=by
    have h2:=RW.out;rw[<- podCs_row,<- ln] at h2;exact⟨zix h2 (by omega) mem,by omega⟩
   obtain rfl:M.length=k:=ln;clear mem;go_wp2;go_ret
   exact⟨B,d,rfl,G.out,fin.out.1,fin.out.2⟩
end Go.Proofs.YtcogiogjpbkeaaaGreatDoor.T18
