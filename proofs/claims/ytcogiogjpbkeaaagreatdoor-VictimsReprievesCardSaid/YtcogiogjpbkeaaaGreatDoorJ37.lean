/-
  The stable order of numbered elements: rotations, merges, blocks. No condition, no program.
  slices.swapRangeCmpFunc at pods. Condition: the two blocks lie in the row.
  slices.rotateCmpFunc at pods. Condition: both blocks hold something.
-/
import Derived.Test.YtcogiogjpbkeaaaGreatDoorJ0
import Derived.Sort.LotA
import Derived.Test.YtcogiogjpbkeaaaGreatDoorJ36
namespace Go.Proofs.YtcogiogjpbkeaaaGreatDoor
open Go.Sort
def loS(lt:Nat->Nat->Bool)(s t:Nat):Bool:=lt s t||(!lt t s&&decide (s<t))
section
variable{lt:Nat->Nat->Bool}
theorem zjn{s t:Nat}(h:s<t):loS lt t s=lt t s:=by
 unfold loS;rw[decide_eq_false (by omega)]
 simp
theorem aay{s t:Nat}(h1:loS lt s t=false)(h2:loS lt t s=false):s=t:=by
 unfold loS at h1 h2;cases a:lt s t<;>cases b:lt t s<;>simp[a,b] at h1 h2
 omega
theorem zos(h:SWO lt)(x:Nat):loS lt x x=false:=by unfold loS;simp[h.irrefl x]
theorem zsh(h:SWO lt){x y z:Nat}(h1:loS lt x y=true)(h2:loS lt y z=true):loS lt x z=true:=by
 unfold loS at h1 h2 ⊢;cases a:lt x z
 ·cases b:lt x y
  ·simp only[b,Bool.false_or,Bool.and_eq_true,Bool.not_eq_true',decide_eq_true_eq] at h1
   cases c:lt y z
   ·simp only[c,Bool.false_or,Bool.and_eq_true,Bool.not_eq_true',decide_eq_true_eq] at h2
    rw[h.ntrans _ _ _ h2.1 h1.1,decide_eq_true (show x<z by omega)]
    rfl
   ·have:=h.ntrans _ _ _ h1.1 a
    rw[c] at this;cases this
  ·cases c:lt y z
   ·simp only[c,Bool.false_or,Bool.and_eq_true,Bool.not_eq_true',decide_eq_true_eq] at h2
    have:=h.ntrans _ _ _ a h2.1;rw[b] at this;cases this
   ·have:=h.trans _ _ _ b c
    rw[a] at this;cases this
 ·rfl
theorem zkp(h:SWO lt):SWO (loS lt) where
 irrefl:=zos h
 trans:=fun x y z=>zsh h
 ntrans:=fun x y z h1 h2=>by
  cases a:loS lt x z with
  | false=>rfl
  | true =>
    by_cases e:x=y
    ·subst e;rw[a] at h2;cases h2
    ·cases b:loS lt y x with
     | false=>exact absurd (aay h1 b) e
     | true =>
       have:=zsh h b a;rw[h2] at this;cases this
def zco(a m b p:Nat):Nat:=if a<=p/\p<a+(b - m) then m+(p - a) else if a+(b - m)<=p/\p<b then p - (b - m) else p
theorem zkw{a m b p:Nat}(h1:a<=p)(h2:p<a+(b - m)):zco a m b p=m+(p - a):=if_pos ⟨h1,h2⟩
theorem zja{a m b p:Nat}(h1:a+(b - m)<=p)(h2:p<b):zco a m b p=p - (b - m):=by
 unfold zco;rw[if_neg (by omega),if_pos ⟨h1,h2⟩]
theorem zih{a m b p:Nat}(h:p<a\/b<=p)(h2:a<=m)(h3:m<=b):zco a m b p=p:=by
 unfold zco;rw[if_neg (by omega),if_neg (by omega)]
theorem zsy(m b p:Nat)(h:m<=b):zco m m b p=p:=by
 unfold zco
 split
 ·omega
 ·split
  ·omega
  ·rfl
theorem zpa(a m p:Nat):zco a m m p=p:=by
 unfold zco
 split
 ·omega
 ·split
  ·omega
  ·rfl
def zgu(d:Array Nat)(a b:Nat):Nat->Array Nat
 | 0=>d
 | n+1=>swp (zgu d a b n) (a+n) (b+n)
theorem zep(d:Array Nat)(a b:Nat):∀ n,(zgu d a b n).size=d.size
 | 0=>rfl
 | n+1=>by rw[zgu,swp_size,zep d a b n]
theorem zhb(d:Array Nat)(a b lo hi:Nat)(h1:lo<=a)(h2:lo<=b)(hh:hi<=d.size):∀ n,a+n<=hi->b+n<=hi->PermIn lo hi d (zgu d a b n)
 | 0,_,_=>permIn_refl _ _ _
 | n+1,h3,h4=>permIn_trans _ _ _ _ _ (zhb d a b lo hi h1 h2 hh n (by omega) (by omega)) (by
   rw[zgu]
   exact swp_permIn _ _ _ _ _ (by omega) (by omega) (by omega) (by omega) (by rw[zep];exact hh))
theorem zim(d:Array Nat)(a b:Nat):∀ n,a+n<=b->b+n<=d.size->∀ p,(zgu d a b n)[p]! = d[if a<=p/\p<a+n then b+(p - a) else if b<=p/\p<b+n then a+(p - b) else p]!
 | 0,_,_,p=>by rw[zgu,if_neg (by omega),if_neg (by omega)]
 | n+1,h1,h2,p=>by
   have ih:=zim d a b n (by omega) (by omega)
   rw[zgu,swp_get _ (by rw[zep];omega) (by rw[zep];omega)]
   by_cases e1:p=b+n
   ·rw[if_pos e1,ih,if_neg (by omega),if_neg (by omega),if_neg (by omega),if_pos (by omega)]
    congr 1;omega
   ·rw[if_neg e1]
    by_cases e2:p=a+n
    ·rw[if_pos e2,ih,if_neg (by omega),if_neg (by omega),if_pos (by omega)]
     congr 1;omega
    ·rw[if_neg e2,ih]
     congr 1
     repeat' split
     all_goals omega
theorem acu{m i j:Nat}{d:Array Nat}{f:Nat->Nat}(h:j<i)(hm:i<=m)(hs:m+j<=d.size)(hd:∀ p,d[zco (m - i) m (m+j) p]! = f p)(p:Nat):(zgu d (m - i) m j)[zco (m - (i - j)) m (m+j) p]! = f p:=by
 rw[zim d _ _ j (by omega) hs,<- hd p]
 congr 1
 unfold zco
 repeat' split
 all_goals omega
theorem acs{m i j:Nat}{d:Array Nat}{f:Nat->Nat}(h:i<j)(hm:i<=m)(hs:m+j<=d.size)(hd:∀ p,d[zco (m - i) m (m+j) p]! = f p)(p:Nat):(zgu d (m - i) (m+j - i) i)[zco (m - i) m (m+(j - i)) p]! = f p:=by
 rw[zim d _ _ i (by omega) (by omega),<- hd p]
 congr 1
 unfold zco
 repeat' split
 all_goals omega
theorem acv{m i:Nat}{d:Array Nat}{f:Nat->Nat}(hm:i<=m)(hs:m+i<=d.size)(hd:∀ p,d[zco (m - i) m (m+i) p]! = f p)(p:Nat):(zgu d (m - i) m i)[p]! = f p:=by
 rw[zim d _ _ i (by omega) hs,<- hd p]
 congr 1
 unfold zco
 repeat' split
 all_goals omega
theorem alg{a k:Nat}{d dk:Array Nat}(hk:a<=k)(hs:k+1<dk.size)(h:∀ p,dk[p]! = d[zco a (a+1) (k+1) p]!)(p:Nat):(swp dk k (k+1))[p]! = d[zco a (a+1) (k+2) p]!:=by
 rw[swp_get dk (by omega) hs,h k,h (k+1),h p]
 unfold zco
 repeat' split
 all_goals first | rfl | omega | (congr 1;omega)
theorem acr{k m:Nat}{d dk:Array Nat}(hk:k<m)(hs:m<dk.size)(h:∀ p,dk[p]! = d[zco (k+1) m (m+1) p]!)(p:Nat):(swp dk (k+1) k)[p]! = d[zco k m (m+1) p]!:=by
 rw[swp_get dk (by omega) (by omega),h k,h (k+1),h p]
 unfold zco
 repeat' split
 all_goals first | rfl | omega | (congr 1;omega)
def zra(a m b:Nat)(d:Array Nat):Prop:=∀ i j,a<=i->i<m->m<=j->j<b->d[i]! < d[j]!
theorem sorted_glue{a m b:Nat}{d:Array Nat}(h1:SortedIn (loS lt) a m d)(h2:SortedIn (loS lt) m b d)(h3:∀ x y,a<=x->x<m->m<=y->y<b->loS lt d[y]! d[x]! = false):SortedIn (loS lt) a b d:=by
 intro i j hi hij hj
 by_cases e1:j<m
 ·exact h1 i j hi hij e1
 ·by_cases e2:m<=i
  ·exact h2 i j e2 hij hj
  ·exact h3 i j hi (by omega) (by omega) hj
theorem zgt(h:SWO lt){a b:Nat}{d:Array Nat}(hs:SortedIn (loS lt) a b d){i j:Nat}(hi:a<=i)(hij:i<=j)(hj:j<b):loS lt d[j]! d[i]! = false:=by
 rcases Nat.lt_or_ge i j with hlt | hge
 ·exact hs i j hi hlt hj
 ·obtain rfl:i=j:=by omega
  exact zos h _
structure Split(lt:Nat->Nat->Bool)(a s m e b:Nat)(d:Array Nat):Prop where
 a_s:a<=s
 sm:s<=m
 me:m<=e
 eb:e<=b
 keep:∀ x y,a<=x->x<s->e<=y->y<b->loS lt d[y]! d[x]! = false
 turn:∀ x y,s<=x->x<m->m<=y->y<e->loS lt d[y]! d[x]! = true
structure Parts(lt:Nat->Nat->Bool)(a s mid e b:Nat)(d:Array Nat):Prop where
 one:SortedIn (loS lt) a s d
 two:SortedIn (loS lt) s mid d
 three:SortedIn (loS lt) mid e d
 four:SortedIn (loS lt) e b d
 apart:∀ x y,a<=x->x<mid->mid<=y->y<b->loS lt d[y]! d[x]! = false
theorem znd(h:SWO lt){a s m e b:Nat}{d d1:Array Nat}(S:Split lt a s m e b d)(hl:SortedIn (loS lt) a m d)(hr:SortedIn (loS lt) m b d)(hd:∀ p,d1[p]! = d[zco s m e p]!):
  Parts lt a s (s+(e - m)) e b d1:=by
 obtain⟨has,hsm,hme,heb,hk,ht⟩:=S;have f1:∀ p,p<s->d1[p]! = d[p]!:=fun p hp=>by rw[hd,zih (Or.inl hp) hsm hme]
 have f2:∀ p,s<=p->p<s+(e - m)->d1[p]! = d[m+(p - s)]!:=fun p h1 h2=>by rw[hd,zkw h1 h2]
 have f3:∀ p,s+(e - m)<=p->p<e->d1[p]! = d[p - (e - m)]!:=fun p h1 h2=>by rw[hd,zja h1 h2]
 have f4:∀ p,e<=p->d1[p]! = d[p]!:=fun p hp=>by rw[hd,zih (Or.inr hp) hsm hme]
 refine⟨fun i j hi hij hj=>?_,fun i j hi hij hj=>?_,fun i j hi hij hj=>?_,fun i j hi hij hj=>?_,fun x y hx1 hx2 hy1 hy2=>?_⟩
 ·rw[f1 i (by omega),f1 j hj];exact hl i j hi hij (by omega)
 ·rw[f2 i hi (by omega),f2 j (by omega) hj];exact hr _ _ (by omega) (by omega) (by omega)
 ·rw[f3 i hi (by omega),f3 j (by omega) hj];exact hl _ _ (by omega) (by omega) (by omega)
 ·rw[f4 i hi,f4 j (by omega)];exact hr _ _ (by omega) hij hj
 ·by_cases ex:x<s
  ·rw[f1 x ex]
   by_cases ey:y<e
   ·rw[f3 y hy1 ey];exact zgt h hl hx1 (by omega) (by omega)
   ·rw[f4 y (by omega)];exact hk x y hx1 ex (by omega) hy2
  ·rw[f2 x (by omega) hx2]
   by_cases ey:y<e
   ·rw[f3 y hy1 ey]
    exact(zkp h).asymmA (ht _ _ (by omega) (by omega) (by omega) (by omega))
   ·rw[f4 y (by omega)];exact hr _ _ (by omega) (by omega) hy2
theorem Parts.whole{a s mid e b:Nat}{d:Array Nat}(h:Parts lt a s mid e b d)(h1:∀ x y,a<=x->x<s->s<=y->y<mid->loS lt d[y]! d[x]! = false)(h2:∀ x y,mid<=x->x<e->e<=y->y<b->loS lt d[y]! d[x]! = false):SortedIn (loS lt) a b d :=
 sorted_glue (sorted_glue h.one h.two h1) (sorted_glue h.three h.four h2) h.apart
theorem zyn(h:SWO lt){a i b:Nat}{d d1:Array Nat}(ha:a+1<=i)(hib:i<=b)(hr:SortedIn (loS lt) (a+1) b d)(hd:∀ p,d1[p]! = d[zco a (a+1) i p]!)
  (h1:∀ p,a+1<=p->p<i->loS lt d[p]! d[a]! = true) (h2:∀ p,i<=p->p<b->loS lt d[p]! d[a]! = false):SortedIn (loS lt) a b d1:=by
 have hl:SortedIn (loS lt) a (a+1) d:=fun i j h1 h2 h3=>by omega
 refine(znd h (S:=⟨Nat.le_refl a,by omega,ha,hib,fun x y h1 h2=>by omega,fun x y hx1 hx2 hy1 hy2=>?_⟩) hl hr hd).whole (fun x y h1 h2=>by omega) (fun x y hx1 hx2 hy1 hy2=>?_)
 ·obtain rfl:x=a:=by omega
  exact h1 y hy1 hy2
 ·obtain rfl:x=i - 1:=by omega
  rw[hd,hd,zih (Or.inr hy1) (by omega) ha,zja (by omega) (by omega)]
  have:=h2 y hy1 hy2
  rwa [show i - 1 - (i - (a+1))=a by omega]
theorem zur(h:SWO lt){a i m:Nat}{d d1:Array Nat}(ha:a<=i)(him:i<=m)(hl:SortedIn (loS lt) a m d)(hd:∀ p,d1[p]! = d[zco i m (m+1) p]!)
  (h1:∀ p,a<=p->p<i->loS lt d[m]! d[p]! = false) (h2:∀ p,i<=p->p<m->loS lt d[m]! d[p]! = true):SortedIn (loS lt) a (m+1) d1:=by
 have hr:SortedIn (loS lt) m (m+1) d:=fun i j h1 h2 h3=>by omega
 refine(znd h (S:=⟨ha,him,by omega,Nat.le_refl _,fun x y h1 h2 h3 h4=>by omega,fun x y hx1 hx2 hy1 hy2=>?_⟩) hl hr hd).whole (fun x y hx1 hx2 hy1 hy2=>?_) (fun x y h1 h2=>by omega)
 ·obtain rfl:y=m:=by omega
  exact h2 x hx1 hx2
 ·obtain rfl:y=i:=by omega
  rw[hd,hd,zih (Or.inl hx2) him (by omega),zkw (by omega) (by omega),Nat.sub_self,Nat.add_zero]
  exact h1 x hx1 hx2
theorem zwc(h:SWO lt){m b p q:Nat}{d:Array Nat}{x:Nat}(hr:SortedIn (loS lt) m b d)(hp:m<=p)(hq:p<=q)(hb:q<b)(hh:loS lt d[q]! x=true):loS lt d[p]! x=true:=by
 cases e:loS lt d[p]! x with
 | true=>rfl
 | false =>
   have:=(zkp h).ntrans _ _ _ (zgt h hr hp hq hb) e;rw[hh] at this;cases this
theorem zoi(h:SWO lt){m b p q:Nat}{d:Array Nat}{x:Nat}(hr:SortedIn (loS lt) m b d)(hp:m<=p)(hq:p<=q)(hb:q<b)(hh:loS lt d[p]! x=false):loS lt d[q]! x=false :=
 (zkp h).ntrans _ _ _ (zgt h hr hp hq hb) hh
theorem zrr(h:SWO lt){a m p q:Nat}{d:Array Nat}{x:Nat}(hl:SortedIn (loS lt) a m d)(hp:a<=p)(hq:p<=q)(hb:q<m)(hh:loS lt x d[q]! = false):loS lt x d[p]! = false :=
 (zkp h).ntrans _ _ _ hh (zgt h hl hp hq hb)
theorem zoj(h:SWO lt){a m p q:Nat}{d:Array Nat}{x:Nat}(hl:SortedIn (loS lt) a m d)(hp:a<=p)(hq:p<=q)(hb:q<m)(hh:loS lt x d[p]! = true):loS lt x d[q]! = true:=by
 cases e:loS lt x d[q]! with
 | true=>rfl
 | false =>
   have:=(zkp h).ntrans _ _ _ e (zgt h hl hp hq hb);rw[hh] at this;cases this
theorem ads(h:SWO lt){a s s0 r0 m n b:Nat}{d:Array Nat}(hl:SortedIn (loS lt) a m d)(hr:SortedIn (loS lt) m b d)(ham:a<m)(hmb:m<b)
  (has:a<=s) (hsm:s<=m) (hme:m+s<=n) (heb:n<=b+s) (h0:s0=a\/s0+b=n) (h1:r0=m\/r0+m=n)
  (hs:s=s0\/loS lt d[n - s]! d[s - 1]! = false) (hq:s=r0\/loS lt d[n - 1 - s]! d[s]! = true):Split lt a s m (n - s) b d:=by
 refine⟨has,hsm,by omega,by omega,fun x y hx1 hx2 hy1 hy2=>?_,fun x y hx1 hx2 hy1 hy2=>?_⟩
 ·rcases hs with hs | hs
  ·omega
  ·exact zrr h hl hx1 (by omega) (by omega) (zoi h hr (by omega) hy1 hy2 hs)
 ·rcases hq with hq | hq
  ·omega
  ·exact zoj h hl (by omega) hx1 hx2 (zwc h hr hy1 (by omega) (by omega) hq)
theorem agn{a mid b:Nat}{d1 d2 d3:Array Nat}(hb:b<=d1.size)(ham:a<=mid)(hmb:mid<=b)(hap:∀ x y,a<=x->x<mid->mid<=y->y<b->loS lt d1[y]! d1[x]! = false)
  (p2:PermIn a mid d1 d2) (s2:SortedIn (loS lt) a mid d2) (p3:PermIn mid b d2 d3) (s3:SortedIn (loS lt) mid b d3):PermIn a b d1 d3/\SortedIn (loS lt) a b d3:=by
 have hs2:d2.size=d1.size:=p2.1;refine⟨permIn_trans _ _ _ _ _ (permIn_mono _ _ _ _ _ _ (Nat.le_refl _) hmb hb p2) (permIn_mono _ _ _ _ _ _ ham (Nat.le_refl _) (by omega) p3),?_⟩
 have e3:∀ p,p<mid->d3[p]! = d2[p]!:=fun p hp=>p3.2.1 p (Or.inl hp)
 have e2:∀ p,mid<=p->d2[p]! = d1[p]!:=fun p hp=>p2.2.1 p (Or.inr hp)
 refine sorted_glue (fun i j h1 h2 h3=>by rw[e3 i (by omega),e3 j h3];exact s2 i j h1 h2 h3) s3 (fun x y hx1 hx2 hy1 hy2=>?_)
 rw[e3 x hx2];refine permIn_all d2 d3 mid b (fun v=>loS lt v d2[x]! = false) (by omega) p3 (fun y hy1 hy2=>?_) y hy1 hy2
 rw[e2 y hy1];exact permIn_all d1 d2 a mid (fun v=>loS lt d1[y]! v=false) (by omega) p2 (fun x hx1 hx2=>hap x y hx1 hx2 hy1 hy2) x hx1 hx2
theorem zop(hS:SWO lt)(a:Nat):∀ (j:Nat) (d:Array Nat),j<d.size->(∀ p,a<=p->p<j->d[p]! < d[j]!)->insInner lt a j d=insInner (loS lt) a j d
 | 0,d,_,_=>by simp only[insInner]
 | j+1,d,hj,hp=>by
   unfold insInner
   by_cases haj:j+1>a
   ·rw[zjn (hp j (by omega) (by omega))]
    split
    ·refine zop hS a j _ (by rw[swp_size];omega) fun p h1 h2=>?_
     rw[swp_get d hj (by omega),swp_get d hj (by omega),if_neg (by omega),if_neg (by omega),if_pos rfl]
     exact hp p h1 (by omega)
    ·rfl
   ·rw[decide_eq_false haj]
    simp
theorem zoq(hS:SWO lt)(a b:Nat):∀ (n i:Nat) (d:Array Nat),b - i=n->a<i->i<=b->b<=d.size->SortedIn (loS lt) a i d ->
  (∀ p q,a<=p->p<i->i<=q->q<b->d[p]! < d[q]!)->(∀ p q,i<=p->p<q->q<b->d[p]! < d[q]!)->PermIn a b d (insOuter lt a b i d)/\SortedIn (loS lt) a b (insOuter lt a b i d)
 | 0,i,d,hn,_,hib,_,hs,_,_=>by
   obtain rfl:i=b:=by omega
   rw[insOuter,if_neg (by omega)]
   exact⟨permIn_refl _ _ _,hs⟩
 | n+1,i,d,hn,hai,hib,hb,hs,h1,h2=>by
   have hlt:i<b:=by omega
   rw[insOuter,if_pos hlt,zop hS a i d (by omega) (fun p hp1 hp2=>h1 p i hp1 hp2 (Nat.le_refl _) hlt)]
   have hI:Ins (loS lt) a i i d:=⟨fun p q hap hpq hqi _ hq=>hs p q hap hpq (by omega),fun q h1 h2=>by omega⟩
   have k1:=insInner_spec (zkp hS) swp_permIn permIn_refl permIn_trans a (i+1) i (by omega) i d (by omega) (Nat.le_refl _) (by omega) hI
   have hsz:=k1.1.1;have hout:∀ p,i+1<=p->(insInner (loS lt) a i d)[p]! = d[p]!:=fun p hp=>k1.1.2.1 p (Or.inr hp)
   have k2:=zoq hS a b n (i+1) (insInner (loS lt) a i d) (by omega) (by omega) (by omega) (by omega) k1.2 (fun p q hp1 hp2 hq1 hq2=>by
     rw[hout q hq1]
     exact permIn_all d _ a (i+1) (fun v=>v<d[q]!) (by omega) k1.1 (fun p hp1 hp2=>by
      rcases Nat.lt_or_ge p i with h | h
      ·exact h1 p q hp1 h (by omega) hq2
      ·exact h2 p q h (by omega) hq2) p hp1 hp2)
    (fun p q hp1 hp2 hq=>by rw[hout p hp1,hout q (by omega)];exact h2 p q (by omega) hp2 hq)
   exact⟨permIn_trans _ _ _ _ _ (permIn_mono _ _ _ _ _ _ (Nat.le_refl _) (by omega) hb k1.1) k2.1,k2.2⟩
theorem aas(hS:SWO lt)(a b:Nat)(d:Array Nat)(hab:a<=b)(hb:b<=d.size)(h:∀ p q,a<=p->p<q->q<b->d[p]! < d[q]!):PermIn a b d (insertionSort lt d a b)/\SortedIn (loS lt) a b (insertionSort lt d a b):=by
 unfold insertionSort
 by_cases e:a=b
 ·subst e
  rw[insOuter,if_neg (by omega)]
  exact⟨permIn_refl _ _ _,fun i j h1 h2 h3=>by omega⟩
 ·exact zoq hS a b _ (a+1) d rfl (by omega) (by omega) hb (fun i j h1 h2 h3=>by omega) (fun p q h1 h2 h3 h4=>h p q h1 (by omega) h4) (fun p q h1 h2 h3=>h p q (by omega) h2 h3)
def Seg(lt:Nat->Nat->Bool)(s e:Nat)(d:Array Nat):Prop:=SortedIn (loS lt) s e d/\∀ p,s<=p->p<e->s<=d[p]!/\d[p]! < e
theorem Seg.congr{s e:Nat}{d d':Array Nat}(h:Seg lt s e d)(he:∀ p,s<=p->p<e->d'[p]! = d[p]!):Seg lt s e d' :=
 ⟨fun i j h1 h2 h3=>by rw[he i h1 (by omega),he j (by omega) h3];exact h.1 i j h1 h2 h3,fun p h1 h2=>by rw[he p h1 h2];exact h.2 p h1 h2⟩
theorem Seg.cross{a m b:Nat}{d:Array Nat}(h1:Seg lt a m d)(h2:Seg lt m b d):zra a m b d:=fun i j hi hi2 hj hj2=>by
 have:=h1.2 i hi hi2;have:=h2.2 j hj hj2;omega
theorem Seg.merged{a m b:Nat}{d d':Array Nat}(h1:Seg lt a m d)(h2:Seg lt m b d)(ham:a<=m)(hmb:m<=b)(hb:b<=d.size)(hp:PermIn a b d d')(hs:SortedIn (loS lt) a b d'):Seg lt a b d' :=
 ⟨hs,permIn_all d d' a b (fun v=>a<=v/\v<b) hb hp (fun p hp1 hp2=>by
  rcases Nat.lt_or_ge p m with h | h
  ·have:=h1.2 p hp1 h;omega
  ·have:=h2.2 p h hp2;omega)⟩
inductive Pre(lt:Nat->Nat->Bool)(bs:Nat)(d:Array Nat):Nat->Prop
 | zero:Pre lt bs d 0
 | more {a:Nat}:Pre lt bs d a->Seg lt a (a+bs) d->Pre lt bs d (a+bs)
inductive zfw(lt:Nat->Nat->Bool)(bs n:Nat)(d:Array Nat):Nat->Prop
 | nil {a:Nat}:n<=a->zfw lt bs n d a
 | last {a:Nat}:a<n->n<=a+bs->Seg lt a n d->zfw lt bs n d a
 | cons {a:Nat}:a+bs<n->Seg lt a (a+bs) d->zfw lt bs n d (a+bs)->zfw lt bs n d a
theorem Pre.congr{bs a:Nat}{d d':Array Nat}(h:Pre lt bs d a):(∀ p,p<a->d'[p]! = d[p]!)->Pre lt bs d' a:=by
 induction h with
 | zero=>exact fun _=>.zero
 | more h1 h2 ih=>exact fun he=>.more (ih fun p hp=>he p (by omega)) (h2.congr fun p h1 h2=>he p h2)
theorem zfw.congr{bs n a:Nat}{d d':Array Nat}(h:zfw lt bs n d a):(∀ p,a<=p->p<n->d'[p]! = d[p]!)->zfw lt bs n d' a:=by
 induction h with
 | nil h=>exact fun _=>.nil h
 | last h1 h2 h3=>exact fun he=>.last h1 h2 (h3.congr he)
 | cons h1 h2 h3 ih=>exact fun he=>.cons h1 (h2.congr fun p q1 q2=>he p q1 (by omega)) (ih fun p q1 q2=>he p (by omega) q2)
theorem Pre.close{bs n a:Nat}{d:Array Nat}(h:Pre lt bs d a):zfw lt bs n d a->a<=n->zfw lt bs n d 0:=by
 induction h with
 | zero=>exact fun h _=>h
 | more h1 h2 ih =>
   intro h hn;refine ih ?_ (by omega)
   rename_i a
   rcases Nat.lt_or_ge (a+bs) n with h3 | h3
   ·exact .cons h3 h2 h
   ·obtain rfl:n=a+bs:=by omega
    by_cases e:bs=0
    ·subst e;exact h
    ·exact .last (by omega) (Nat.le_refl _) h2
theorem zfw.whole{bs n:Nat}{d:Array Nat}(h:zfw lt bs n d 0)(hb:n<=bs):SortedIn (loS lt) 0 n d:=by
 cases h with
 | nil h=>exact fun i j h1 h2 h3=>by omega
 | last h1 h2 h3=>exact h3.1
 | cons h1 h2 h3=>omega
theorem zfw.two{bs n a:Nat}{d:Array Nat}(h:zfw lt bs n d a)(h0:0<bs)(h2:a+2 * bs<=n):Seg lt a (a+bs) d/\Seg lt (a+bs) (a+2 * bs) d/\zfw lt bs n d (a+2 * bs):=by
 have e:a+bs+bs=a+2 * bs:=by omega
 cases h with
 | nil h=>omega
 | last h1 h3 h4=>omega
 | cons h1 h3 h4 =>
   refine⟨h3,?_⟩;cases h4 with
   | nil h=>omega
   | last h5 h6 h7 =>
     obtain rfl:n=a+2 * bs:=by omega
     exact⟨h7,.nil (Nat.le_refl _)⟩
   | cons h5 h6 h7=>rw[e] at h6 h7;exact⟨h6,h7⟩
theorem zfw.rest{bs n a:Nat}{d:Array Nat}(h:zfw lt bs n d a)(h1:a+bs<n)(h2:n<a+2 * bs):Seg lt a (a+bs) d/\Seg lt (a+bs) n d:=by
 cases h with
 | nil h=>omega
 | last h3 h4 h5=>omega
 | cons h3 h4 h5 =>
   refine⟨h4,?_⟩;cases h5 with
   | nil h=>omega
   | last h6 h7 h8=>exact h8
   | cons h6 h7 h8=>omega
theorem zfw.wide{bs n a:Nat}{d:Array Nat}(h:zfw lt bs n d a)(h1:n<=a+bs):zfw lt (2 * bs) n d a:=by
 cases h with
 | nil h=>exact .nil h
 | last h3 h4 h5=>exact .last h3 (by omega) h5
 | cons h3 h4 h5=>omega
end
end Go.Proofs.YtcogiogjpbkeaaaGreatDoor
namespace Go.Proofs.YtcogiogjpbkeaaaGreatDoor
open Go.Shelf Go.RowKit Go.Lib Go.Sort
variable{P:Program}{k:Nat}
set_option maxHeartbeats 4000000 in
set_option maxRecDepth 1000000 in
theorem znv(L:SLy P k)(enc:Nat->List Value)(g:Nat)(cb:Array Value)(blk off cap a b n:Nat)(d0 d:Array Nat)(w0 w:World)
  (R:RowK enc k w0 blk off d0) (hs:d0.size=d.size) (S:SWK enc k w0 blk off d w) (ha:a+n<=d.size) (hb:b+n<=d.size) (hsz:d.size<4611686018427387904) :
  Calls P 162 #[.slice (some ⟨blk,off,none⟩) d.size cap,.int .i64 a,.int .i64 b,.int .i64 n,.func (.func g) #[] cb] w fun e w'=>e=.returned (.tuple #[])/\SWK enc k w0 blk off (zgu d a b n) w':=by
 have mixed:=L.mixed;have t0:=L.t0;have a0:=L.a0;have z0:=L.z0;have v0:=L.v0;have t3:=L.t3;have a3:=L.a3;have z3:=L.z3;have v3:=L.v3;have t4:=L.t4;have a4:=L.a4;have z4:=L.z4;have v4:=L.v4;have t22:=L.t22;have a22:=L.a22;have z22:=L.z22;have v22:=L.v22;have t25:=L.t25;have a25:=L.a25;have z25:=L.z25;have v25:=L.v25;have aE:=L.aE;have zE:=L.zE;have FG:=L.fSwap;have S0:Aside (SWK enc k w0 blk off d w):=S;clear S
 go_enter FG,Tryz.ntmps162
 go_wp2
 go_loopg [10] n (fun gx s10 wr=>∃ (i:Nat) (dk:Array Nat),s10=.int .i64 i/\i<=n/\n - i<=gx/\dk.size=d.size/\Aside (SWK enc k w0 blk off dk wr)/\Hid (dk=zgu d a b i))
 case atStart=>exact⟨0,d,rfl,Nat.zero_le _,Nat.le_refl _,rfl,S0,rfl⟩
 case round =>
  clear S0;obtain⟨i,dk,rfl,hin,hgx,hds,S1,HE⟩:=hrel
  by_cases hlt:i<n
  ·have hltz:(i:Int)<(n:Int):=by omega
   go_wp2_with fail;have ea44:((a:Int)+(i:Int)).toNat=a+i:=by omega
   have pa44:(0:Int)<=(a:Int)+(i:Int):=by omega
   have ba44:(a:Int)+(i:Int)<(d.size:Int):=by omega
   have ra44:IntKind.i64.wrap ((a:Int)+(i:Int))=(a:Int)+(i:Int):=by rw[IntKind.wrap_i64];omega
   have ec44:((b:Int)+(i:Int)).toNat=b+i:=by omega
   have pc44:(0:Int)<=(b:Int)+(i:Int):=by omega
   have bc44:(b:Int)+(i:Int)<(d.size:Int):=by omega
   have rc44:IntKind.i64.wrap ((b:Int)+(i:Int))=(b:Int)+(i:Int):=by rw[IntKind.wrap_i64];omega
   have S2:Aside (SWK enc k w0 blk off (swp dk (a+i) (b+i)) ((wr.drew.setCells blk (off+(a+i) * k) (enc dk[b+i]!)).setCells blk (off+(b+i) * k) (enc dk[a+i]!))):=S1.out.swapped R (a+i) (b+i) (by omega) (by omega)
   have l44a:=S1.out.ld1 R (by omega) P (a+i) (by omega)
   have l44b:=S1.out.ld1 R (by omega) P (b+i) (by omega)
   have s44a:=S1.out.st1 R (by omega) P (a+i) (by omega) dk[b+i]!
   have s44b:=S1.out.st2 R (by omega) P (a+i) (b+i) (by omega) (by omega) dk[b+i]! dk[a+i]!
   have n44a:(enc dk[a+i]!).length=k:=R.hk _;have n44b:(enc dk[b+i]!).length=k:=R.hk _;generalize enc dk[a+i]! = cI44 at S2 l44a s44b n44a;generalize enc dk[b+i]! = cJ44 at S2 l44b s44a s44b n44b;clear S1;go_wp2_with fail
   go_big_region_o
   clear l44a l44b s44a s44b;generalize (wr.drew.setCells blk (off+(a+i) * k) cJ44).setCells blk (off+(b+i) * k) cI44=w2 at S2 ⊢;go_wp2;go_roundg (n - (i+1))
   case measure=>omega
   case rel=>exact⟨i+1,swp dk (a+i) (b+i),by go_num,by omega,Nat.le_refl _,by rw[size_swp];exact hds,S2,(show Hid _ from by rw[HE.out];exact rfl)⟩
  ·obtain rfl:i=n:=by omega
   go_wp2;go_end0
   refine⟨rfl,?_⟩;rw[<- HE.out];exact S1.out
end Go.Proofs.YtcogiogjpbkeaaaGreatDoor
namespace Go.Proofs.YtcogiogjpbkeaaaGreatDoor
open Go.Shelf Go.RowKit Go.Lib Go.Sort
variable{P:Program}{k:Nat}
set_option maxHeartbeats 4000000 in
set_option maxRecDepth 1000000 in
theorem aii(L:SLy P k)(enc:Nat->List Value)(g:Nat)(cb:Array Value)(blk off cap a m b:Nat)(d0 d:Array Nat)(w0 w:World)
  (R:RowK enc k w0 blk off d0) (hs:d0.size=d.size) (S:SWK enc k w0 blk off d w) (ham:a<m) (hmb:m<b) (hb:b<=d.size) (hsz:d.size<4611686018427387904) :
  Calls P 151 #[.slice (some ⟨blk,off,none⟩) d.size cap,.int .i64 a,.int .i64 m,.int .i64 b,.func (.func g) #[] cb] w fun e w'=>e=.returned (.tuple #[])/\∃ dk:Array Nat,Aside (SWK enc k w0 blk off dk w')/\PermIn a b d dk/\∀ p,dk[p]! = d[zco a m b p]!:=by
 have mixed:=L.mixed;have t0:=L.t0;have a0:=L.a0;have z0:=L.z0;have v0:=L.v0;have t3:=L.t3;have a3:=L.a3;have z3:=L.z3;have v3:=L.v3;have t4:=L.t4;have a4:=L.a4;have z4:=L.z4;have v4:=L.v4;have t22:=L.t22;have a22:=L.a22;have z22:=L.z22;have v22:=L.v22;have t25:=L.t25;have a25:=L.a25;have z25:=L.z25;have v25:=L.v25;have aE:=L.aE;have zE:=L.zE;have FG:=L.fRotate;have eS:∀ args w,(callFunc 162 args).run P w=.ok (.enter 162 args) w:=enters_of L.fSwap (by kernel_rfl) rfl
 have S0:Aside (SWK enc k w0 blk off d w):=S;clear S
 go_enter FG,Tryz.ntmps151
 go_wp2
 go_loopg [10,11] (b - a) (fun gx s10 s11 wr=>∃ (i j:Nat) (dk:Array Nat),s10=.int .i64 i/\s11=.int .i64 j/\0<i/\0<j/\i+a<=m/\m+j<=b/\i+j<=gx/\dk.size=d.size/\Aside (SWK enc k w0 blk off dk wr)/\Hid (PermIn a b d dk)/\Hid (∀ p,dk[zco (m - i) m (m+j) p]! = d[zco a m b p]!))
 case atStart=>exact⟨m - a,b - m,d,by go_num,by go_num,by omega,by omega,by omega,by omega,by omega,rfl,S0,permIn_refl _ _ _,fun p=>by rw[show m - (m - a)=a by omega,show m+(b - m)=b by omega]⟩
 case round =>
  clear S0;obtain⟨i,j,dk,rfl,rfl,hi,hj,him,hjb,hgx,hds,S1,HP,HR⟩:=hrel;have ci:((m - i:Nat):Int)=(m:Int) - (i:Int):=by omega
  by_cases heq:i=j
  ·subst heq
   have hc:=znv L enc g cb blk off cap (m - i) m i d0 dk w0 wr R (by omega) S1.out (by omega) (by omega) (by omega)
   rw[ci,hds] at hc;clear S1;go_wp2_with (go_at_fn 162;refine hc.mono ?_;rintro e w1 ⟨rfl,S2⟩)
   go_end0
   exact⟨rfl,_,S2,permIn_trans _ _ _ _ _ HP.out (zhb dk _ _ a b (by omega) (by omega) (by omega) i (by omega) (by omega)),fun p=>acv (by omega) (by omega) HR.out p⟩
  ·have hne:((i:Int) != (j:Int))=true:=by simpa using(by omega:¬(i:Int)=(j:Int))
   by_cases hgt:j<i
   ·have hgz:(j:Int)<(i:Int):=by omega
    have hc:=znv L enc g cb blk off cap (m - i) m j d0 dk w0 wr R (by omega) S1.out (by omega) (by omega) (by omega)
    rw[ci,hds] at hc;clear S1;go_wp2_with (go_at_fn 162;refine hc.mono ?_;rintro e w1 ⟨rfl,S2⟩)
    go_roundg (i - j+j)
    case measure=>omega
    case rel=>exact⟨i - j,j,_,by go_num,rfl,by omega,hj,by omega,hjb,Nat.le_refl _,by rw[zep];exact hds,S2,permIn_trans _ _ _ _ _ HP.out (zhb dk _ _ a b (by omega) (by omega) (by omega) j (by omega) (by omega)),fun p=>acu hgt (by omega) (by omega) HR.out p⟩
   ·have hgz:¬(j:Int)<(i:Int):=by omega
    have cj:((m+j - i:Nat):Int)=(m:Int)+(j:Int) - (i:Int):=by omega
    have hc:=znv L enc g cb blk off cap (m - i) (m+j - i) i d0 dk w0 wr R (by omega) S1.out (by omega) (by omega) (by omega)
    rw[ci,cj,hds] at hc;clear S1;go_wp2_with (go_at_fn 162;refine hc.mono ?_;rintro e w1 ⟨rfl,S2⟩)
    go_roundg (i+(j - i))
    case measure=>omega
    case rel=>exact⟨i,j - i,_,rfl,by go_num,hi,by omega,him,by omega,Nat.le_refl _,by rw[zep];exact hds,S2,permIn_trans _ _ _ _ _ HP.out (zhb dk _ _ a b (by omega) (by omega) (by omega) i (by omega) (by omega)),fun p=>acs (by omega) (by omega) (by omega) HR.out p⟩
end Go.Proofs.YtcogiogjpbkeaaaGreatDoor
