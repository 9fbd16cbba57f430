/-
  The load as a sum; the reference's Of and Fits over the lists of a cluster; the contracts of package load (ConL). No walk.
  What the law's fixed example comes to. No condition, no walk.
  What the laws of load want beside the contracts. No condition, no walk.
-/
import Derived.Test.YtclfbplbccehkaaGreatDoorD15
import Derived.Test.YtclfbplbccehkaaGreatDoorD21
import Derived.Test.YtclfbplbccehkaaGreatDoorD20
namespace Go.Proofs.YtclfbplbccehkaaGreatDoor.T16
open Go.RowKit Go.Sort Go.Lib V12 T13 T14 T15
def smF (f:PodV→Int):List PodV→Int
  | []=>0
  | y :: L=>f y + smF f L
theorem smF_le {f g:PodV→Int} {L:List PodV} (h:∀ y ∈ L,f y≤g y):smF f L≤smF g L:=by
  induction L with
  | nil=>exact Int.le_refl _
  | cons y L ih =>
    have h1:=h y (by simp)
    have h2:=ih fun z hz=>h z (by simp [hz])
    show f y + smF f L≤g y + smF g L
    omega
theorem smF_congr {f g:PodV→Int} {L:List PodV} (h:∀ y ∈ L,f y = g y):smF f L = smF g L:=by
  induction L with
  | nil=>rfl
  | cons y L ih =>
    show f y + smF f L = g y + smF g L
    rw [h y (by simp),ih fun z hz=>h z (by simp [hz])]
theorem smF_map (f:PodV→Int) (t:PodV→PodV) (L:List PodV):smF f (L.map t) = smF (fun y=>f (t y)) L:=by
  induction L with
  | nil=>rfl
  | cons y L ih =>
    show f (t y) + smF f (L.map t) = f (t y) + smF (fun y=>f (t y)) L
    rw [ih]
theorem smF_upd {L:List PodV} (h:LOk L) {k:Int} (hk:k ∈ keys L) (f:PodV→Int) (t:PodV→PodV):smF f (L.map fun y=>if y.k = k then t y else y) = smF f L - f (getL L k) + f (t (getL L k)):=by
  have hn:=h.nod
  have hg:∀ y ∈ L,y.k = k→y = getL L k:=fun y hy e=>by rw [← e];exact (get_mem h hy).symm
  obtain ⟨hm,hkk⟩:=get_some hk
  generalize getL L k = z at *
  clear h
  induction L with
  | nil=>cases hm
  | cons y L ih =>
    have hn2:(y.k :: keys L).Nodup:=hn
    rw [List.nodup_cons] at hn2
    show f (if y.k = k then t y else y) + smF f (L.map fun y=>if y.k = k then t y else y) = f y + smF f L - _ + _
    by_cases e:y.k = k
    · rw [if_pos e]
      have e2:=hg y (by simp) e
      have e3:(L.map fun y=>if y.k = k then t y else y) = L:=by
        conv=>rhs;rw [← List.map_id L]
        refine List.map_congr_left fun x hx=>?_
        rw [if_neg fun e4=>hn2.1 (by rw [e,← e4];exact List.mem_map_of_mem hx)]
        rfl
      rw [e3,e2]
      omega
    · rw [if_neg e]
      have hm2:z ∈ L:=by
        rcases List.mem_cons.1 hm with rfl | hm2
        · exact absurd hkk e
        · exact hm2
      rw [ih (by rw [← hkk];exact List.mem_map_of_mem hm2) hn2.2 (fun x hx=>hg x (by simp [hx])) hm2]
      omega
def ldF (O:Int→Bool) (p:PodV) (nd:Int) (j:Nat) (y:PodV):Int:=(if O y.k = true then 0 else heldZ nd j y) + (if seesB p nd y = true then y.Z j else 0)
theorem load_sm (O:Int→Bool) (p:PodV) (nd:Int) (L:List PodV) (j:Nat):loadZ O p nd L j = smF (ldF O p nd j) L:=by
  induction L with
  | nil=>rfl
  | cons y L ih =>
    show _ = ldF O p nd j y + smF (ldF O p nd j) L
    rw [← ih]
    unfold loadZ outL seesL ldF
    rw [List.filter_cons,List.filter_cons]
    cases O y.k <;> cases seesB p nd y <;> simp only [Bool.not_true,Bool.not_false,if_true,if_false,Bool.false_eq_true] <;> (try simp only [usedL,sumL]) <;> omega
def ofZ (O:Int→Bool) (p:PodV) (nd:Int) (M:List NV) (L:List PodV) (j:Nat):Int:=if nd ∈ nk M then loadZ O p nd L j else 0
def fitsM (O:Int→Bool) (p:PodV) (nd:Int) (M:List NV) (L:List PodV) (d:Nat):Bool:=decide (nd ∈ nk M∧¬ 0≤wrongOf p.m p.Z d∧∀ k,k < d→loadZ O p nd L k + p.Z k≤(nget M nd).C k)
def no:Int→Bool:=fun _=>false
def leftB (p:PodV) (nd:Int) (M:List NV) (L:List PodV) (d:Nat):Bool:=decide (nd ∈ nk M∧∀ k,k < d→loadZ no p nd L k≤(nget M nd).C k)
def shortB (p:PodV) (nd:Int) (M:List NV) (d:Nat):Bool:=decide (nd ∈ nk M∧¬ 0≤wrongOf p.m p.Z d)
def shortZ (p:PodV) (nd:Int) (M:List NV) (L:List PodV) (k:Nat):Int:=max 0 (loadZ no p nd L k + p.Z k - (nget M nd).C k)
def SetOf (w:World) (A:Option Addr) (n:Nat) (O:Int→Bool):Prop:=∃ Z:Nat→Int,Rd w A n Z∧∀ k,O k = true ↔ ∃ j,j < n∧Z j = k
theorem SetOf.keep {w w':World} {A:Option Addr} {n:Nat} {O:Int→Bool} (h:SetOf w A n O) (k:Keep w w'):SetOf w' A n O:=by
  obtain ⟨Z,h1,h2⟩:=h
  exact ⟨Z,h1.keep k,h2⟩
theorem SetOf.nil (w:World) (A:Option Addr):SetOf w A 0 no:=⟨fun _=>0,⟨by omega,fun _ h=>absurd h (Nat.not_lt_zero _),fun h=>absurd h (Nat.lt_irrefl _)⟩,fun k=>⟨fun h=>absurd (show false = true from h) (by decide),fun ⟨j,h,_⟩=>absurd h (Nat.not_lt_zero _)⟩⟩
def Row (w:World) (v:Value) (d:Nat) (Z:Nat→Int):Prop:=∃ A c,v = .slice A d c∧Rd w A d Z
theorem Row.keep {w w':World} {v:Value} {d:Nat} {Z:Nat→Int} (h:Row w v d Z) (k:Keep w w'):Row w' v d Z:=by
  obtain ⟨A,c,h1,h2⟩:=h
  exact ⟨A,c,h1,h2.keep k⟩
theorem Row.same {w w':World} {v:Value} {d:Nat} {Z:Nat→Int} (h:Row w v d Z) (e:∀ g,v.ownBlock = some g→w'.heap[g]? = w.heap[g]?):Row w' v d Z:=by
  obtain ⟨A,c,rfl,h2⟩:=h
  refine ⟨A,c,rfl,h2.small,h2.range,fun hn=>?_⟩
  obtain ⟨g,o,rfl,hc⟩:=h2.adr hn
  exact ⟨g,o,rfl,fun j hj=>(World.cell?_of_block (e g rfl)).trans (hc j hj)⟩
structure ConL (CS:PredC):Prop where
  of:∀ {w d q M L X w1} (p:PodV) (nd:Int) (A:Option Addr) (n c:Nat) (O:Int→Bool),CS w d q M L X w1→ErrT w1→PodIs w1 p→I64 nd→SetOf w1 A n O→n≤200→d≤64→M.length≤100→L.length≤100 →
    Calls Tryz.prog 12 #[.pointer (some ⟨q,0,none⟩),p.val,.int .i64 nd,.slice A n c] w1 fun e w'=>∃ v,e = .returned v∧Row w' v d (ofZ O p nd M L)∧(∀ g,v.ownBlock = some g→w1.heap.size≤g)∧Keep w1 w'
  fits:∀ {w d q M L X w1} (p:PodV) (nd:Int) (A:Option Addr) (n c:Nat) (O:Int→Bool),CS w d q M L X w1→ErrT w1→PodIs w1 p→I64 nd→SetOf w1 A n O→n≤200→d≤64→p.m≤1000→M.length≤100→L.length≤100 →
    Calls Tryz.prog 14 #[.pointer (some ⟨q,0,none⟩),p.val,.int .i64 nd,.slice A n c] w1 fun e w'=>e = .returned (.bool (fitsM O p nd M L d))∧Keep w1 w'
  left:∀ {w d q M L X w1} (p:PodV) (nd:Int),CS w d q M L X w1→ErrT w1→PodIs w1 p→I64 nd→d≤64→M.length≤100→L.length≤100 →
    Calls Tryz.prog 17 #[.pointer (some ⟨q,0,none⟩),p.val,.int .i64 nd] w1 fun e w'=>∃ v n,e = .returned (.tuple #[v,.bool (leftB p nd M L d)])∧(leftB p nd M L d = true→n = d)∧(leftB p nd M L d = false→n = 0)∧Row w' v n (fun k=>(nget M nd).C k - loadZ no p nd L k)∧Keep w1 w'
  short:∀ {w d q M L X w1} (p:PodV) (nd:Int),CS w d q M L X w1→ErrT w1→PodIs w1 p→I64 nd→d≤64→p.m≤1000→M.length≤100→L.length≤100 →
    Calls Tryz.prog 18 #[.pointer (some ⟨q,0,none⟩),p.val,.int .i64 nd] w1 fun e w'=>∃ v n,e = .returned v∧(shortB p nd M d = true→n = d)∧(shortB p nd M d = false→n = 0)∧Row w' v n (shortZ p nd M L)∧Keep w1 w'
  none:∀ (p:PodV) (nd:Int) (A:Option Addr) (n c:Nat) (w1:World),Calls Tryz.prog 14 #[.pointer none,p.val,.int .i64 nd,.slice A n c] w1 fun e w'=>e = .returned (.bool false)∧Keep w1 w'
theorem load_nm (O:Int→Bool) (p:PodV) (nd:Int) (P:Nat→PodV) (m j:Nat):loadZ O p nd ((T13.lst P m).map nm) j = loadZ O p nd (T13.lst P m) j:=by
  rw [load_sm,load_sm,smF_map]
  exact smF_congr fun y _=>rfl
section
variable {CS:PredC} {w:World} {d q:Nat} {M:List NV} {L:List PodV} {X:Nat→Prop} {w1:World} {x:RcV} {Q:Nat→C14.NdC} {P:Nat→PodV}
theorem st_req (C:Con CS) (h:St CS w d q M L X w1 x Q P):∀ j,j < x.m→(P j).m = d∧∀ k,k < d→Amt ((P j).Z k):=fun j hj=>by
  have h1:nm (P j) ∈ L:=by rw [← h.el];exact List.mem_map_of_mem (lst_mem.2 ⟨j,hj,rfl⟩)
  exact (C.ok h.o).req (nm (P j)) h1
theorem st_load (h:St CS w d q M L X w1 x Q P) (O:Int→Bool) (p:PodV) (nd:Int) (j:Nat):loadZ O p nd (T13.lst P x.m) j = loadZ O p nd L j:=by
  rw [← h.el,load_nm]
theorem rof_st (C:Con CS) (h:St CS w d q M L X w1 x Q P) (hd:d≤64) (hl:L.length≤100) (p:PodV) (nd:Int) (A:Option Addr) (n c:Nat) (O:Int→Bool) (hS:SetOf w1 A n O) :
    Calls Tryz.prog 13 #[x.val,p.val,.int .i64 nd,.slice A n c] w1 fun e w'=>∃ v,e = .returned v∧Row w' v d (ofZ O p nd M L)∧Keep w1 w':=by
  obtain ⟨Z,hZ,hO⟩:=hS
  refine (r16of_fn x d h.xd hd p nd A n c Z O hO Q P w1 h.rn.rd h.rl.rd (by rw [← h.lenL];exact hl) (st_req C h) hZ).mono ?_
  rintro e w' ⟨G,c',rfl,hr,k⟩
  refine ⟨_,rfl,⟨G,c',rfl,?_⟩,k⟩
  have e1:(if C14.findN Q nd x.n < 0 then fun _=>(0:Int) else fun j=>usedL (outL O (T13.lst P x.m)) nd j + sumL (seesL p nd (T13.lst P x.m)) j) = ofZ O p nd M L:=by
    funext j
    unfold ofZ
    by_cases hk:nd ∈ nk M
    · obtain ⟨i,_,e2,_⟩:=node_at h.em (C.ok h.o).srt hk
      rw [if_neg (by rw [e2];omega),if_pos hk,← st_load h]
      rfl
    · rw [if_pos (node_no h.em hk),if_neg hk]
  rw [e1] at hr
  exact hr
theorem rfits_st (C:Con CS) (h:St CS w d q M L X w1 x Q P) (hd:d≤64) (hl:L.length≤100) (p:PodV) (hp:PodIs w1 p) (nd:Int) (A:Option Addr) (n c:Nat) (O:Int→Bool) (hS:SetOf w1 A n O) :
    Calls Tryz.prog 15 #[x.val,p.val,.int .i64 nd,.slice A n c] w1 fun e w'=>e = .returned (.bool (fitsM O p nd M L d))∧Keep w1 w':=by
  obtain ⟨Z,hZ,hO⟩:=hS
  refine (r16fits_fn x d h.xd hd p nd A n c Z O hO Q P w1 (h.rdc C) h.dn h.rl.rd (by rw [← h.lenL];exact hl) (st_req C h) hZ hp).mono ?_
  rintro e w' ⟨rfl,k⟩
  refine ⟨?_,k⟩
  have e1:fitsR O p nd (C14.lst Q x.n) (T13.lst P x.m) d = fitsM O p nd M L d:=by
    unfold fitsR fitsM
    rw [decide_eq_decide]
    have hk:nd ∈ C14.keys (C14.lst Q x.n) ↔ nd ∈ nk M:=by rw [← h.em,key_nv]
    constructor
    · rintro ⟨h1,h2,h3⟩
      refine ⟨hk.1 h1,h2,fun k hkd=>?_⟩
      obtain ⟨i,hi,e2,e3⟩:=node_at h.em (C.ok h.o).srt (hk.1 h1)
      rcases C14.find_cases Q nd x.n with ⟨f1,_⟩ | ⟨j,_,f1,_,_,f2⟩
      · omega
      · have:i = j:=by omega
        subst this
        have:=h3 k hkd
        rw [f2,st_load h] at this
        rw [e3]
        exact this
    · rintro ⟨h1,h2,h3⟩
      refine ⟨hk.2 h1,h2,fun k hkd=>?_⟩
      obtain ⟨i,hi,e2,e3⟩:=node_at h.em (C.ok h.o).srt h1
      rcases C14.find_cases Q nd x.n with ⟨f1,_⟩ | ⟨j,_,f1,_,_,f2⟩
      · omega
      · have:i = j:=by omega
        subst this
        have:=h3 k hkd
        rw [f2,st_load h]
        rw [e3] at this
        exact this
  rw [e1]
end
end Go.Proofs.YtclfbplbccehkaaGreatDoor.T16

namespace Go.Proofs.YtclfbplbccehkaaGreatDoor.T15
open Go.RowKit Go.Sort Go.Lib V12 T13 T14
def zn (z:Int):Nat→Int:=fun _=>z
def lq (k p z:Int) (A:Option Addr) (c:Nat):PodV:=⟨k,p,false,0,A,1,c,zn z,0,0,0,0⟩
def lc (k p z a h d:Int):PodV:=⟨k,p,false,0,none,1,0,zn z,a,h,d,-1⟩
theorem rd_one {w:World} {b:Nat} {z:Int} {T:TypeId} (h:w.heap[b]? = some (.cells #[.int .i64 z] T (0,0))) (hz:-9223372036854775808≤z∧z≤9223372036854775807):Rd w (some ⟨b,0,none⟩) 1 (zn z):=by
  refine ⟨by omega,fun _ _=>hz,fun _=>⟨b,0,rfl,fun j hj=>?_⟩⟩
  obtain rfl:j = 0:=by omega
  rw [Nat.zero_add,cell_of_row w b 0 _ _ _ h]
  rfl
theorem lq_is {w:World} {A:Option Addr} {c:Nat} {k p z:Int} (hk:I64 k) (hp:I64 p) (h:Rd w A 1 (zn z)) (ha:A≠none):PodIs w (lq k p z A c):=⟨h,fun e=>absurd e ha,hk,hp,(zpod_is w).rng.1,(zpod_is w).rng.1,(zpod_is w).rng.1,(zpod_is w).rng.1,(zpod_is w).rng.1⟩
theorem lq_sub {L:List PodV} {k p z:Int} {A:Option Addr} {c:Nat} (hz:0≤z∧z≤1099511627776) (hk:k ∉ keys L) (hl:L.length≤100):sbC L 1 (lq k p z A c) = 0∧wrI 1 (lq k p z A c).m (lq k p z A c).Z = 0∧sbL L 1 (lq k p z A c) = L ++ [lc k p z L.length 1 (-1)]:=by
  have h0:¬ 0≤wrongOf 1 (zn z) ((1:Nat):Int):=by
    rw [wrongOf_ok fun j hj=>?_,if_pos rfl]
    · decide
    · unfold badAmt zn
      exact decide_eq_false (by omega)
  have h1:subC L 65536 (lq k p z A c) = 0:=by
    unfold subC
    rw [if_neg (show ¬ (lq k p z A c).k ∈ keys L from hk),if_neg (by omega)]
  refine ⟨?_,?_,?_⟩
  · unfold sbC
    rw [show (lq k p z A c).m = 1 from rfl,show (lq k p z A c).Z = zn z from rfl,if_neg h0]
    exact h1
  · unfold wrI
    rw [show (lq k p z A c).m = 1 from rfl,show (lq k p z A c).Z = zn z from rfl,if_neg h0]
  · unfold sbL
    rw [show (lq k p z A c).m = 1 from rfl,show (lq k p z A c).Z = zn z from rfl,if_neg h0]
    unfold subL
    rw [if_pos h1]
    rfl
theorem ln_add {M:List NV} {k z:Int} (hz:0≤z∧z≤1099511627776) (hk:k ∉ nk M) (hl:M.length≤100):adC M 1 k 1 (zn z) = 0∧wrI 1 1 (zn z) = 0∧adL M 1 k 1 (zn z) = G.ins NV.k ⟨k,zn z⟩ M:=by
  have h0:¬ 0≤wrongOf 1 (zn z) ((1:Nat):Int):=by
    rw [wrongOf_ok fun j hj=>?_,if_pos rfl]
    · decide
    · unfold badAmt zn
      exact decide_eq_false (by omega)
  have h1:adC M 1 k 1 (zn z) = 0:=by
    unfold adC
    rw [if_neg h0,if_neg hk,if_neg (by omega)]
  refine ⟨h1,?_,?_⟩
  · unfold wrI
    rw [if_neg h0]
  · unfold adL
    rw [if_pos h1]
section
variable {CS:PredC} {w w1:World} {q:Nat} {M:List NV} {L:List PodV} {X:Nat→Prop}
theorem aw_node (C:Con CS) (h:CS w 1 q M L X w1) (hg:ErrT w) {b:Nat} {k z:Int} {T:TypeId} (hb:w1.heap[b]? = some (.cells #[.int .i64 z] T (0,0))) (hk:I64 k) (hz:0≤z∧z≤1099511627776) (hn:k ∉ nk M) (hl:M.length≤100) :
    Calls Tryz.prog 27 #[.pointer (some ⟨q,0,none⟩),.agg #[.int .i64 k,.slice (some ⟨b,0,none⟩) 1 1]] w1 fun e w'=>e = .returned .nilIface∧CS w 1 q (G.ins NV.k ⟨k,zn z⟩ M) L X w':=by
  obtain ⟨h1,h2,h3⟩:=ln_add hz hn hl
  refine (C.addNode k (some ⟨b,0,none⟩) 1 1 (zn z) h (hg.keep (C.kp h)) (rd_one hb (by omega)) (fun e=>by cases e) hk (by omega) hl).mono ?_
  rintro e w' ⟨e1,e2,_⟩
  rw [h1,h2] at e1
  rw [h3] at e2
  exact ⟨e1,e2⟩
theorem aw_sub (C:Con CS) (h:CS w 1 q M L X w1) (hg:ErrT w) {b:Nat} {k p z:Int} {T:TypeId} (hb:w1.heap[b]? = some (.cells #[.int .i64 z] T (0,0))) (hk:I64 k) (hp:I64 p) (hz:0≤z∧z≤1099511627776) (hn:k ∉ keys L) (hl:L.length≤100) :
    Calls Tryz.prog 29 #[.pointer (some ⟨q,0,none⟩),.agg #[.int .i64 k,.int .i64 p,.bool false,.int .i64 0,.slice (some ⟨b,0,none⟩) 1 1,.int .i64 0,.int .i64 0,.int .i64 0,.int .i64 0]] w1 fun e w'=>∃ r:PodV,e = .returned (.tuple #[r.val,.nilIface])∧CS w 1 q M (L ++ [lc k p z L.length 1 (-1)]) X w':=by
  obtain ⟨h1,h2,h3⟩:=lq_sub (p:=p) (A:=some ⟨b,0,none⟩) (c:=1) hz hn hl
  refine (C.submit (lq k p z (some ⟨b,0,none⟩) 1) h (hg.keep (C.kp h)) (lq_is hk hp (rd_one hb (by omega)) (fun e=>by cases e)) (by show (1:Nat)≤1000;omega) hl).mono ?_
  rintro e w' ⟨r,e1,_,_,_,_,e2,_⟩
  rw [h1,h2] at e1
  rw [h3] at e2
  exact ⟨r,e1,e2⟩
theorem aw_bind (C:Con CS) (h:CS w 1 q M L X w1) (hg:ErrT w) (id nd:Int) (hi:I64 id) (hn:I64 nd) (hm:M.length≤100) (hl:L.length≤100) (hc:plC M L 1 id nd 1 = 0) {L2:List PodV} (e2:appL L id 1 nd (-1) = L2) :
    Calls Tryz.prog 23 #[.pointer (some ⟨q,0,none⟩),.int .i64 id,.int .i64 nd] w1 fun e w'=>∃ r:PodV,e = .returned (.tuple #[r.val,.nilIface])∧CS w 1 q M L2 X w':=by
  refine (C.bind id nd h (hg.keep (C.kp h)) hi hn hm hl).mono ?_
  rintro e w' ⟨r,h1,_,_,_,_,h3,_⟩
  rw [hc] at h1
  unfold plL at h3
  rw [if_pos hc,e2] at h3
  exact ⟨r,h1,h3⟩
end
end Go.Proofs.YtclfbplbccehkaaGreatDoor.T15

namespace Go.Proofs.YtclfbplbccehkaaGreatDoor.T16
open Go.RowKit Go.Sort Go.Lib V12 T13 T14 T15
def AwOk:Prop:=∀ W,ErrT W→Calls Tryz.prog 9 #[] W fun e w'=>e = .returned (.bool true)∧Keep W w'
theorem row_same {w:World} {v u:Value} {n m:Nat} {Z Y:Nat→Int} (h:Row w v n Z) (k:Row w u m Y) {b:Bool} (e:sameB n Z m Y = b):Calls Tryz.prog 11 #[v,u] w fun e' w'=>e' = .returned (.bool b)∧Keep w w':=by
  obtain ⟨A,c,rfl,h⟩:=h
  obtain ⟨B,e2,rfl,k⟩:=k
  refine (rsame_is A B n m c e2 Z Y w h k b e).mono ?_
  rintro e' w' ⟨h2,k3⟩
  exact ⟨h2,k3.keep⟩
theorem same_self (n:Nat) (Z:Nat→Int):sameB n Z n Z = true:=decide_eq_true ⟨rfl,fun _ _=>rfl⟩
theorem row_fits {w:World} {v u:Value} {n m:Nat} {Z Y:Nat→Int} (h:Row w v n Z) (k:Row w u m Y) {b:Bool} (e:fitsB n Z m Y = b):Calls Tryz.prog 21 #[v,u] w fun e' w'=>e' = .returned (.bool b)∧Keep w w':=by
  obtain ⟨A,c,rfl,h⟩:=h
  obtain ⟨B,e2,rfl,k⟩:=k
  refine (rfits_any A B n m c e2 Z Y w h k).mono ?_
  rintro e' w' ⟨h2,k3⟩
  exact ⟨by rw [← e];exact h2,k3.keep⟩
theorem load_le {O O':Int→Bool} {p q:PodV} {nd:Int} {L:List PodV} {j:Nat} (hO:∀ k,O k = true→O' k = true) (hs:∀ y,seesB q nd y = true→seesB p nd y = true) (h:∀ y ∈ L,Amt (y.Z j)):loadZ O' q nd L j≤loadZ O p nd L j:=by
  rw [load_sm,load_sm]
  refine smF_le fun y hy=>?_
  have h0:=(h y hy).1
  have h1:=heldZ_lo (id:=nd) (h y hy)
  unfold ldF
  have a1:(if O' y.k = true then 0 else heldZ nd j y)≤(if O y.k = true then 0 else heldZ nd j y):=by
    by_cases e:O y.k = true
    · rw [if_pos e,if_pos (hO _ e)];exact Int.le_refl _
    · rw [if_neg e]
      split
      · exact h1
      · exact Int.le_refl _
  have a2:(if seesB q nd y = true then y.Z j else 0)≤(if seesB p nd y = true then y.Z j else 0):=by
    by_cases e:seesB q nd y = true
    · rw [if_pos e,if_pos (hs y e)];exact Int.le_refl _
    · rw [if_neg e]
      split
      · exact h0
      · exact Int.le_refl _
  omega
theorem sees_hi {p q y:PodV} {nd:Int} (hk:q.k = p.k) (hp:p.p≤q.p) (h:seesB q nd y = true):seesB p nd y = true:=by
  have h:=of_decide_eq_true h
  exact decide_eq_true ⟨by rw [← hk];exact h.1,h.2.1,h.2.2.1,Int.le_trans hp h.2.2.2⟩
theorem fits_le {O O':Int→Bool} {p q:PodV} {nd:Int} {M:List NV} {L:List PodV} {d:Nat} (h:∀ k,k < d→loadZ O' q nd L k≤loadZ O p nd L k) (hz:fitsM O p nd M L d = true→¬ 0≤wrongOf q.m q.Z d∧∀ k,k < d→q.Z k≤p.Z k) (hf:fitsM O p nd M L d = true):fitsM O' q nd M L d = true:=by
  obtain ⟨h1,h2⟩:=hz hf
  obtain ⟨f1,_,f3⟩:=of_decide_eq_true hf
  refine decide_eq_true ⟨f1,h1,fun k hk=>?_⟩
  have a1:=h k hk
  have a2:=h2 k hk
  have a3:=f3 k hk
  omega
theorem load_bind {M:List NV} {L:List PodV} {d:Nat} {id nd:Int} {p:PodV} (h:LOk L) (hne:p.k≠id) (hc:plC M L d id nd 1 = 0) (j:Nat):loadZ no p nd (plL M L d id nd 1) j = loadZ no p nd L j + if (getL L id).h = 2∧(getL L id).d = nd∧p.p≤(getL L id).p then 0 else (getL L id).Z j:=by
  obtain ⟨hk,_,hx,_⟩:=plC_zero hc
  obtain ⟨hh,hx3⟩:=nx_one hx
  obtain ⟨_,hkk⟩:=get_some hk
  have e0:plL M L d id nd 1 = L.map fun y=>if y.k = id then appP y 1 nd (-1) else y:=by
    unfold plL
    rw [if_pos hc]
    unfold appL
    rw [if_pos (plC_app hc)]
  rw [e0,load_sm,load_sm,smF_upd h hk]
  generalize getL L id = z at *
  have e1:ldF no p nd j (appP z 1 nd (-1)) = z.Z j:=by
    have a1:heldZ nd j (appP z 1 nd (-1)) = z.Z j:=heldZ_yes ⟨rfl,Or.inl hx3⟩
    have a2:¬ seesB p nd (appP z 1 nd (-1)) = true:=fun e=>by
      have e2:nx z.h 1 = 2:=(of_decide_eq_true e).2.1
      omega
    unfold ldF
    rw [if_neg (show ¬ no (appP z 1 nd (-1)).k = true from fun e=>by cases e),if_neg a2,a1]
    omega
  have e2:ldF no p nd j z = if z.h = 2∧z.d = nd∧p.p≤z.p then z.Z j else 0:=by
    have a1:heldZ nd j z = 0:=heldZ_not fun e=>by omega
    unfold ldF
    rw [if_neg (show ¬ no z.k = true from fun e=>by cases e),a1]
    by_cases hs:z.h = 2∧z.d = nd∧p.p≤z.p
    · rw [if_pos hs,if_pos (show seesB p nd z = true from decide_eq_true ⟨by rw [hkk];exact fun e=>hne e.symm,hs⟩)]
      omega
    · rw [if_neg hs,if_neg (show ¬ seesB p nd z = true from fun e=>hs (of_decide_eq_true e).2)]
      omega
  rw [e1,e2]
  split <;> omega
theorem of_le {O O':Int→Bool} {p q:PodV} {nd:Int} {M:List NV} {L:List PodV} {d:Nat} (h:∀ k,k < d→loadZ O' q nd L k≤loadZ O p nd L k):fitsB d (ofZ O' q nd M L) d (ofZ O p nd M L) = true:=by
  refine decide_eq_true ⟨rfl,fun k hk=>?_⟩
  unfold ofZ
  by_cases e:nd ∈ nk M
  · rw [if_pos e,if_pos e];exact h k hk
  · rw [if_neg e,if_neg e];exact Int.le_refl _
end Go.Proofs.YtclfbplbccehkaaGreatDoor.T16

