/-
  The order of pairs; sorted lists of them. No condition, no walk.
  The reference's AddNode. Condition: at most 100 nodes, sorted.
-/
import Derived.Test.YtihjgcibpfajkaaGreatDoorD10
import Derived.Test.YtihjgcibpfajkaaGreatDoorD11
namespace Go.Proofs.YtihjgcibpfajkaaGreatDoor.C14
open Go.RowKit Go.Lib V12
def zck(x y:NdC):Bool:=decide (x.k<y.k)
theorem zby(x y:NdC):zck x y=true↔x.k<y.k:=by unfold zck;rw[decide_eq_true_eq]
theorem zle(x y:NdC):zck x y=false↔¬x.k<y.k:=by unfold zck;rw[decide_eq_false_iff_not]
theorem zeu{x y z:NdC}(h:zck x y=true)(k:zck y z=true):zck x z=true:=by rw[zby] at *;omega
theorem zhk{x y:NdC}(h:x.k≠y.k)(k:zck x y=false):zck y x=true:=by rw[zle] at k;rw[zby];omega
def Srt(L:List NdC):Prop:=L.Pairwise fun x y=>zck x y=true
def zbc(x:NdC):List NdC→List NdC
 | []=>[x]
 | y :: L=>if zck x y=true then x :: y :: L else y :: zbc x L
def woL(L:List NdC)(id:Int):List NdC:=L.filter fun y=>decide (y.k≠id)
theorem ins_perm(x:NdC):∀ L,(zbc x L).Perm (x :: L)
 | []=>List.Perm.refl _
 | y :: L=>by
   unfold zbc
   split
   ·exact List.Perm.refl _
   ·exact((ins_perm x L).cons y).trans (List.Perm.swap x y L)
theorem ins_mem{x y:NdC}{L:List NdC}:y∈zbc x L↔y=x∨y∈L:=by rw[(ins_perm x L).mem_iff,List.mem_cons]
theorem ins_sorted{x:NdC}:∀ {L},Srt L→x.k∉keys L→Srt (zbc x L)
 | [],_,_=>List.pairwise_singleton _ _
 | y :: L,h,hk=>by
   have h':=h;unfold Srt at h';rw[List.pairwise_cons] at h';have hk2:x.k≠y.k∧x.k∉keys L:=by unfold keys at hk ⊢;rw[List.map_cons,List.mem_cons,not_or] at hk;exact hk
   unfold zbc
   split
   ·rename_i hb
    unfold Srt;rw[List.pairwise_cons];refine⟨fun z hz=>?_,h⟩
    rcases List.mem_cons.1 hz with rfl | hz
    ·exact hb
    ·exact zeu hb (h'.1 z hz)
   ·rename_i hb
    unfold Srt;rw[List.pairwise_cons];refine⟨fun z hz=>?_,ins_sorted h'.2 hk2.2⟩
    rcases ins_mem.1 hz with rfl | hz
    ·exact zhk hk2.1 (by cases e:zck z y<;>simp_all)
    ·exact h'.1 z hz
theorem ins_len(x:NdC)(L:List NdC):(zbc x L).length=L.length+1:=by rw[(ins_perm x L).length_eq];rfl
theorem ins_keys{x:NdC}{L:List NdC}(h:(keys L).Nodup)(hk:x.k∉keys L):(keys (zbc x L)).Nodup:=by
 have:(keys (zbc x L)).Perm (x.k :: keys L):=(ins_perm x L).map _;rw[this.nodup_iff,List.nodup_cons];exact⟨hk,h⟩
theorem zfm{x:NdC}:∀ {L:List NdC} {i:Nat},Srt L→i≤L.length→(∀ j y,i≤j→L[j]?=some y→zck x y=true)→(∀ y,0<i→L[i - 1]?=some y→zck x y=false)→L.take i++[x]++L.drop i=zbc x L
 | [],i,_,hi,_,_=>by
   obtain rfl:i=0:=by simpa using hi
   rfl
 | y :: L,0,_,_,h1,_=>by
   unfold zbc;rw[if_pos (h1 0 y (Nat.le_refl _) rfl)];rfl
 | y :: L,i+1,hs,hi,h1,h2=>by
   have hs':=hs;unfold Srt at hs';rw[List.pairwise_cons] at hs';have hy:zck x y=false:=by
    cases i with
    | zero=>exact h2 y (by omega) rfl
    | succ i =>
      have hl:i<L.length:=by simp at hi;omega
      have h3:=h2 L[i] (by omega) (by simp[List.getElem?_eq_getElem hl])
      cases e:zck x y with
      | false=>rfl
      | true =>
        rw[zeu e (hs'.1 _ (List.getElem_mem hl))] at h3;exact absurd h3 (by decide)
   unfold zbc
   rw[if_neg (by rw[hy];decide),← zfm (i:=i) hs'.2 (by simp at hi;omega) (fun j z hj hz=>h1 (j+1) z (by omega) (by simpa using hz)) (fun z hz e=>h2 z (by omega) (by
    obtain⟨i',rfl⟩:∃ i',i=i'+1:=⟨i - 1,by omega⟩
    simpa using e))]
   rfl
theorem zgu{L:List NdC}{id:Int}(h:id∉keys L):zai L id=zp:=by
 unfold zai;rw[List.find?_eq_none.2 fun y hy=>by simpa using fun e=>h (by rw[← e];exact List.mem_map_of_mem hy)]
 rfl
theorem get_some{L:List NdC}{id:Int}(h:id∈keys L):zai L id∈L∧(zai L id).k=id:=by
 obtain⟨y,hy,e⟩:=List.mem_map.1 h;unfold zai;cases hf:L.find? fun y=>decide (y.k=id) with
 | none=>exact absurd (List.find?_eq_none.1 hf y hy) (by simpa using e)
 | some z=>exact⟨List.mem_of_find?_eq_some hf,by simpa using List.find?_some hf⟩
theorem zcu(Q:Nat→NdC):∀ n,rnCs Q n=(lst Q n).flatMap NdC.cells
 | 0=>rfl
 | n+1=>by rw[rnCs,zcu Q n,lst_succ,List.flatMap_append,List.flatMap_singleton]
theorem zjr(Q:Nat→NdC){n i:Nat}(h:i≤n):(lst Q n).take i=lst Q i:=by
 refine List.ext_getElem? fun j=>?_
 rw[List.getElem?_take]
 split
 ·rw[zav (by omega),zav (by assumption)]
 ·rw[List.getElem?_eq_none (by rw[lst_len];omega)]
theorem zjq(Q:Nat→NdC)(n i:Nat):(lst Q n).drop i=lst (fun t=>Q (i+t)) (n - i):=by
 refine List.ext_getElem? fun j=>?_
 rw[List.getElem?_drop]
 by_cases h:i+j<n
 ·rw[zav h,zav (by omega)]
 ·rw[List.getElem?_eq_none (by rw[lst_len];omega),List.getElem?_eq_none (by rw[lst_len];omega)]
theorem rnCs_row(L:List NdC):rnCs (row L) L.length=L.flatMap NdC.cells:=by rw[zcu,lst_row]
theorem ins_row{P:Nat→NdC}{n i:Nat}{x:NdC}(hi:i≤n)(hs:Srt (lst P n))(h1:∀ j,i≤j→j<n→zck x (P j)=true)(h2:i=0∨zck x (P (i - 1))=false):
  rnCs P i++x.cells++rnCs (fun t=>P (i+t)) (n - i)=rnCs (row (zbc x (lst P n))) (n+1):=by
 have hl:(zbc x (lst P n)).length=n+1:=by rw[ins_len,lst_len]
 rw[← hl,rnCs_row,← zfm (i:=i) hs (by rw[lst_len];exact hi) (fun j y hj e=>by
  have hj2:j<n:=by have:=(List.getElem?_eq_some_iff.1 e).1;rwa [lst_len] at this
  rw[zav hj2] at e;rw[← Option.some.inj e];exact h1 j hj hj2) (fun y hi0 e=>by
  rw[zav (by omega)] at e
  rw[← Option.some.inj e]
  exact h2.resolve_left (by omega)),zjr _ hi,zjq,List.flatMap_append,List.flatMap_append,zcu,zcu,List.flatMap_singleton]
def zjx(L:List NdC)(x:NdC):List NdC:=L.map fun y=>if y.k=x.k then x else y
theorem zfp(L:List NdC)(x:NdC):keys (zjx L x)=keys L:=by
 unfold keys zjx;rw[List.map_map];refine List.map_congr_left fun y _=>?_
 show(if y.k=x.k then x else y).k=y.k
 split
 ·exact Eq.symm (by assumption)
 ·rfl
theorem srt_keys{L:List NdC}:Srt L↔(keys L).Pairwise (·<·):=by
 unfold Srt keys;rw[List.pairwise_map];exact⟨fun h=>h.imp fun h=>(zby _ _).1 h,fun h=>h.imp fun h=>(zby _ _).2 h⟩
theorem rep_sorted{L:List NdC}{x:NdC}(h:Srt L):Srt (zjx L x):=by rw[srt_keys,zfp,← srt_keys];exact h
theorem keys_nodup{L:List NdC}(h:Srt L):(keys L).Nodup:=by
 rw[srt_keys] at h;exact h.imp fun h=>Int.ne_of_lt h
theorem rep_mem{L:List NdC}{x y:NdC}(h:y∈zjx L x):y∈L∨y=x:=by
 unfold zjx at h;obtain⟨z,hz,rfl⟩:=List.mem_map.1 h
 split
 ·exact Or.inr rfl
 ·exact Or.inl hz
theorem zmh(L:List NdC)(id:Int):(woL L id).length≤L.length:=List.length_filter_le _ _
end Go.Proofs.YtihjgcibpfajkaaGreatDoor.C14
namespace Go.Proofs.YtihjgcibpfajkaaGreatDoor.C14
open Go.RowKit Go.Sort Go.Lib V12 T13 T14
theorem hp2(w:World)(o:Obj)(cs:Array Value)(T:TypeId):((w.alloc o).alloc (.cells cs T)).heap[w.heap.size+1]?=some (.cells cs T (0,0)):=by
 have:=heap_alloc_new (w.alloc o) (.cells cs T)
 rwa [World.size_alloc] at this
theorem hp1(w:World)(o:Obj)(cs:Array Value)(T:TypeId):((w.alloc (.cells cs T)).alloc o).heap[w.heap.size]?=some (.cells cs T (0,0)):=(Keep.one _ _).block (heap_alloc_new w _)
section
variable{w W:World}{b off n c:Nat}{P:Nat→NdC}
theorem zgi(h:∀ j,j<n→CelN w b (off+j * 2) (P j)){i:Nat}(hi:i≤n)(k:Keep w W):SrcC W (.slice (some ⟨b,off,none⟩) i c) i (rnCs P i):=
 zdr (off:=off) (i:=0) (fun j hj=>by rw[Nat.zero_add];exact(h j (by omega)).keep k) off (Or.inr (by omega))
theorem aef(h:∀ j,j<n→CelN w b (off+j * 2) (P j)){i:Nat}(hi:i≤n)(hc:n≤c)(k:Keep w W):SrcC W (.slice (if c=i then some ⟨b,off,none⟩ else some ⟨b,off+i * 2,none⟩) (n - i) (c - i)) (n - i) (rnCs (fun t=>P (i+t)) (n - i)):=by
 by_cases he:c=i
 ·rw[if_pos he]
  exact zdr (off:=off) (i:=i) (fun j hj=>(h (i+j) (by omega)).keep k) off (Or.inl (by omega))
 ·rw[if_neg he]
  exact zdr (off:=off) (i:=i) (fun j hj=>(h (i+j) (by omega)).keep k) _ (Or.inr rfl)
theorem zme(h:∀ j,j<n→CelN w b (off+j * 2) (P j))(k:Keep w W):SrcC W (.slice (some ⟨b,off,none⟩) n c) (n - 0) (rnCs (fun t=>P (0+t)) (n - 0)):=by
 have:=zgi (c:=c) h (Nat.le_refl n) k;rw[Nat.sub_zero,zdk (R:=P) n (fun t _=>by rw[Nat.zero_add])]
 exact this
end
structure RN(w:World)(X:Nat→Prop)(w1:World)(A:Option Addr)(c n:Nat)(Q:Nat→NdC):Prop where
 rd:RdN w1 A n Q
 cap:n≤c
 pl:(A=none∧n=0∧c=0)∨∃ g,A=some ⟨g,0,none⟩∧X g
 is:∀ j,j<n→Rd w (Q j).A (Q j).n (Q j).C∧((Q j).A=none→(Q j).n=0∧(Q j).c=0)
theorem RN.nil(w:World)(X:Nat→Prop)(w1:World):RN w X w1 none 0 0 (fun _=>zp):=⟨RdN.nil _ _ _,Nat.le_refl _,Or.inl ⟨rfl,rfl,rfl⟩,fun _ h=>absurd h (Nat.not_lt_zero _)⟩
theorem RN.keep{w:World}{X:Nat→Prop}{w1 w2:World}{A:Option Addr}{c n:Nat}{Q:Nat→NdC}(h:RN w X w1 A c n Q)(k:Keep w1 w2):RN w X w2 A c n Q:=⟨h.rd.keep k,h.cap,h.pl,h.is⟩
theorem RN.less{w:World}{X Z:Nat→Prop}{w1:World}{A:Option Addr}{c n:Nat}{Q:Nat→NdC}(h:RN w X w1 A c n Q)(hZ:∀ i,X i→Z i):RN w Z w1 A c n Q:=⟨h.rd,h.cap,h.pl.imp id fun ⟨g,e,hg⟩=>⟨g,e,hZ g hg⟩,h.is⟩
theorem RN.rdc{w:World}{X:Nat→Prop}{w1:World}{A:Option Addr}{c n:Nat}{Q:Nat→NdC}(h:RN w X w1 A c n Q)(k:Keep w w1):RdC w1 A n Q:=⟨h.rd,fun j hj=>(h.is j hj).1.keep k,fun j hj=>(h.is j hj).2⟩
theorem RN.same{w:World}{X:Nat→Prop}{w1 w2:World}{A:Option Addr}{c n:Nat}{Q:Nat→NdC}(h:RN w X w1 A c n Q)(f:zas X w1 w2):RN w X w2 A c n Q:=by
 refine⟨⟨h.rd.small,fun hn=>?_,h.rd.ok⟩,h.cap,h.pl,h.is⟩
 obtain⟨b,off,e,ca⟩:=h.rd.adr hn;rcases h.pl with ⟨_,h0,_⟩ | ⟨g,e2,hg⟩
 ·omega
 ·have e3:=Option.some.inj (e.symm.trans e2)
  simp only[Addr.mk.injEq,and_true] at e3;refine⟨b,off,e,fun j hj=>?_⟩
  have hb:w2.heap[b]?=w1.heap[b]?:=by rw[e3.1];exact f g hg
  exact⟨zay (ca j hj).e0 hb,zay (ca j hj).e1 hb⟩
theorem zlb{w w1 W w5:World}{X:Nat→Prop}{bx b:Nat}{d:Int}{A:Option Addr}{c N:Nat}{B:Option Addr}{m e:Nat}{Q:Nat→NdC}(h:RN w X w1 A c N Q)(h1:w1.heap.size≤bx)(h2:w1.heap.size≤b)(hne:bx≠b)(x:NdC)(okx:zrj x)(rx:Rd w x.A x.n x.C)(nx:x.A=none→x.n=0∧x.c=0)
  (k5:Keep W w5) (KW:Keep w1 W) (hbx:bx<W.heap.size) (hb:b<W.heap.size) (BZ:w5.heap[b]?=some (.cells zrc.arr 30 (0,0))) {base:Nat} (hbase:W.heap.size≤base) {B5:Option Addr} {d5:Nat} (hl:N≤1000)
  (ho:w5.ownsRow base 55 2 (.slice B5 (N+1) d5) (N+1) (rnCs (row (zbc x (lst Q N))) (N+1))) :
  (zan (w5.setCell ⟨bx,1,none⟩ (.slice B5 (N+1) d5)) b ⟨d,B5,N+1,d5,B,m,e⟩).heap[b]?=some (.cells (⟨d,B5,N+1,d5,B,m,e⟩:RcV).arr 30 (0,0))∧Keep w1 (zan (w5.setCell ⟨bx,1,none⟩ (.slice B5 (N+1) d5)) b ⟨d,B5,N+1,d5,B,m,e⟩) ∧
  RN w (fun i=>X i∨(w1.heap.size≤i∧i<(zan (w5.setCell ⟨bx,1,none⟩ (.slice B5 (N+1) d5)) b ⟨d,B5,N+1,d5,B,m,e⟩).heap.size)) (zan (w5.setCell ⟨bx,1,none⟩ (.slice B5 (N+1) d5)) b ⟨d,B5,N+1,d5,B,m,e⟩) B5 d5 (N+1) (row (zbc x (lst Q N))):=by
 have Z4:(w5.setCell ⟨bx,1,none⟩ (.slice B5 (N+1) d5)).heap[b]?=some (.cells zrc.arr 30 (0,0)):=(Below.heap_setCell _ _ _ _ (fun e=>hne e.symm)).trans BZ
 have K5:Keep w1 (zan (w5.setCell ⟨bx,1,none⟩ (.slice B5 (N+1) d5)) b ⟨d,B5,N+1,d5,B,m,e⟩):=zbh _ ((KW.trans k5).set h1 _) h2;have sz5:(zan (w5.setCell ⟨bx,1,none⟩ (.slice B5 (N+1) d5)) b ⟨d,B5,N+1,d5,B,m,e⟩).heap.size=w5.heap.size:=by rw[zct];simp
 have ho5:=zal (w':=zan (w5.setCell ⟨bx,1,none⟩ (.slice B5 (N+1) d5)) b ⟨d,B5,N+1,d5,B,m,e⟩) ho fun g hg=>by
  have:=(ho.lt g hg).1;rw[zar _ (by omega:g≠b),Below.heap_setCell _ _ _ _ (show g≠bx by omega)]
 have el:(zbc x (lst Q N)).length=N+1:=by rw[ins_len,lst_len]
 have memr:∀ j,j<N+1→row (zbc x (lst Q N)) j=x∨∃ i,i<N∧row (zbc x (lst Q N)) j=Q i:=fun j hj=>by
  have hm:row (zbc x (lst Q N)) j∈zbc x (lst Q N):=by
   unfold row;rw[List.getD_eq_getElem?_getD,List.getElem?_eq_getElem (by omega)]
   exact List.getElem_mem _
  rcases ins_mem.1 hm with e | e
  ·exact Or.inl e
  ·obtain⟨i,hi,e2⟩:=lst_mem.1 e
   exact Or.inr ⟨i,hi,e2.symm⟩
 refine⟨zbm _ zrc Z4,K5,rows_rd ho5 (by omega) fun j hj=>?_,zdg ho5,?_,fun j hj=>?_⟩
 ·rcases memr j hj with e | ⟨i,hi,e⟩
  ·rw[e];exact okx
  ·rw[e];exact h.rd.ok i hi
 ·rcases ho.2 with ⟨hv,h0⟩ | ⟨g,cap,cur,hv,_⟩
  ·omega
  ·simp only[Value.slice.injEq] at hv
   obtain⟨rfl,_,_⟩:=hv;have:=(ho.lt g rfl);have s0:=KW.size;exact Or.inr ⟨g,rfl,Or.inr ⟨by omega,by rw[sz5];exact this.2⟩⟩
 ·rcases memr j hj with e | ⟨i,hi,e⟩
  ·rw[e];exact⟨rx,nx⟩
  ·rw[e];exact h.is i hi
theorem ztr{x:NdC}{P:Nat→NdC}{N d:Nat}(hx:x.n=d)(h:∀ j,j<N→(P j).n=d):∀ j,j<N+1→(row (zbc x (lst P N)) j).n=d:=fun j hj=>by
 have el:(zbc x (lst P N)).length=N+1:=by rw[ins_len,lst_len]
 have hm:row (zbc x (lst P N)) j∈zbc x (lst P N):=by
  unfold row;rw[List.getD_eq_getElem?_getD,List.getElem?_eq_getElem (by omega)]
  exact List.getElem_mem _
 rcases ins_mem.1 hm with e | e
 ·rw[e];exact hx
 ·obtain⟨i,hi,e2⟩:=lst_mem.1 e
  rw[← e2];exact h i hi
theorem zuz(x:NdC):∀ L:List NdC,(zbc x L).map nv=G.ins NV.k (nv x) (L.map nv)
 | []=>rfl
 | y :: L=>by
   unfold zbc;rw[List.map_cons];unfold G.ins
   by_cases h:x.k<y.k
   ·rw[if_pos ((zby _ _).2 h),if_pos (show(nv x).k<(nv y).k from h)]
    rfl
   ·rw[if_neg (by rw[zby];exact h),if_neg (show ¬(nv x).k<(nv y).k from h),List.map_cons,zuz x L]
theorem aeg{L:List NdC}:Srt L↔G.Srt NV.k (L.map nv):=by
 unfold Srt G.Srt;rw[List.pairwise_map];exact⟨fun h=>h.imp fun h=>(zby _ _).1 h,fun h=>h.imp fun h=>(zby _ _).2 h⟩
set_option maxRecDepth 100000 in
set_option maxHeartbeats 16000000 in
theorem zsq{w:World}{X:Nat→Prop}{w1:World}(d:Nat)(A:Option Addr)(N c:Nat)(B:Option Addr)(m e:Nat){P:Nat→NdC}{M:List NV}(h:RN w X w1 A c N P)(hM:(lst P N).map nv=M)(hs:G.Srt NV.k M)(kd:Int)(A2:Option Addr)(n2 c2:Nat)(Z:Nat→Int)(hV:Rd w A2 n2 Z)(k:Keep w w1)(hn:N≤100)(hc:adC M d kd n2 Z≠0):
  Calls Tryz.prog 24 #[(⟨d,A,N,c,B,m,e⟩:RcV).val,.agg #[.int .i64 kd,.slice A2 n2 c2]] w1 fun e' w'=>∃ A' c' n' P',e'=.returned (.tuple #[(⟨d,A',n',c',B,m,e⟩:RcV).val,.int .i64 (adC M d kd n2 Z),.int .i64 (wrI d n2 Z)])∧Keep w1 w'∧RN w (fun i=>X i∨(w1.heap.size≤i∧i<w'.heap.size)) w' A' c' n' P'∧(lst P' n').map nv=adL M d kd n2 Z∧((∀ j,j<N→(P j).n=d)→∀ j,j<n'→(P' j).n=d):=by
 have mixed:Tryz.prog.follows .mixedOrders=true:=by kernel_rfl
 obtain⟨W0,hW0⟩:∃ W0,W0=w1.alloc (.cells (⟨d,A,N,c,B,m,e⟩:RcV).arr 30):=⟨_,rfl⟩;obtain⟨W1,hW1⟩:∃ W1,W1=W0.alloc (.cells #[.int .i64 kd,.slice A2 n2 c2] 55):=⟨_,rfl⟩;obtain⟨W,hW⟩:∃ W,W=W1.alloc (.cells zrc.arr 30):=⟨_,rfl⟩;obtain⟨bx,hbx⟩:∃ bx,bx=w1.heap.size:=⟨_,rfl⟩;obtain⟨by',hby⟩:∃ by',by'=w1.heap.size+1:=⟨_,rfl⟩
 obtain⟨b,hb⟩:∃ b,b=w1.heap.size+1+1:=⟨_,rfl⟩;have s0:W0.heap.size=by':=by rw[hW0,World.size_alloc,hby]
 have s1:W1.heap.size=b:=by rw[hW1,World.size_alloc,s0,hb,hby]
 have KW:Hid (Keep w1 W):=by rw[hW,hW1,hW0];exact((Keep.one _ _).alloc _:Keep w1 _).alloc _
 have BX:Hid (W.heap[bx]?=some (.cells (⟨d,A,N,c,B,m,e⟩:RcV).arr 30 (0,0))):=by show _=_;rw[hW,hW1,hW0,hbx];exact(Keep.one _ _).block ((Keep.one _ _).block (heap_alloc_new _ _))
 have BY:Hid (W.heap[by']?=some (.cells #[.int .i64 kd,.slice A2 n2 c2] 55 (0,0))):=by show _=_;rw[hW,hW1,← s0];exact(Keep.one _ _).block (heap_alloc_new _ _)
 have BZ:Hid (W.heap[b]?=some (.cells zrc.arr 30 (0,0))):=by show _=_;rw[hW,← s1];exact heap_alloc_new _ _
 have cW:=Lib.hid (zeg A2 n2 c2 Z (d:Int) W (hV.keep (k.trans KW.out)));have cF:Hid (Calls Tryz.prog 47 #[(⟨d,A,N,c,B,m,e⟩:RcV).val,.int .i64 kd] W fun e' w'=>e'=.returned (.int .i64 (findN P kd N))∧Keep W w'):=(zht (⟨d,A,N,c,B,m,e⟩:RcV) P kd W (h.rd.keep KW.out)).mono fun _ _ ⟨he,e2⟩=>⟨he,by rw[e2];exact Keep.one _ _⟩
 have hm:max (d:Int) 0=d:=by omega
 have hb1:decide (0≤(d:Int))=true:=decide_eq_true (by omega)
 have hb2:decide ((d:Int)<0)=false:=decide_eq_false (by omega)
 have hns:¬(1024:Int)≤(N:Int):=by omega
 have hML:M.length=N:=by rw[← hM,List.length_map,lst_len]
 have fk:=find_iff (P:=P) (id:=kd) (n:=N);have hkk:nk M=keys (lst P N):=by rw[← hM,zlq]
 obtain⟨c0,c1,c2',cf⟩:=zac BX.out;have y0:W.cell? ⟨by',0,none⟩=some (.int .i64 kd):=by rw[cell_of_row W by' _ _ _ _ BY.out];rfl
 have y1:W.cell? ⟨by',1,none⟩=some (.slice A2 n2 c2):=by rw[cell_of_row W by' _ _ _ _ BY.out];rfl
 obtain⟨z0,z1,z2,zf⟩:=zac BZ.out;obtain⟨r,hr⟩:∃ r,r=zae n2 Z d:=⟨_,rfl⟩;rw[← hr] at cW;have h':=Lib.hid h;have k':=Lib.hid k;unfold zrc at z0 z1 z2;simp only[RcV.arr] at hW0;simp only[RcV.arr,zrc] at hW;simp only[RcV.val] at cF ⊢;have c0e:=c0;have c1e:=c1;have c2e:=c2';have y1e:=y1;rw[hW,hW1,hW0] at c0e c1e c2e y1e;clear h hV k
 by_cases hw:0≤r
 ·have had:adC M d kd n2 Z=3:=by unfold adC;rw[← hr,if_pos hw]
  have hwi:wrI d n2 Z=r:=by unfold wrI;rw[← hr,if_pos hw]
  rw[had,hwi];replace hwi:=Lib.hid hwi;have no:Hid ((lst P N).map nv=adL M d kd n2 Z):=by show _=_;unfold adL;rw[if_neg (by rw[had];decide)];exact hM
  replace had:=Lib.hid had;replace hr:=Lib.hid hr;replace fk:=Lib.hid fk;replace hkk:=Lib.hid hkk;replace hML:=Lib.hid hML;replace hM:=Lib.hid hM;replace hs:=Lib.hid hs
  go_enter Tryz.func24,Tryz.ntmps24
  go_wp2_with fail;rw[← hW0,← hW1,← hW,← hb];try rw[← hby]
  try rw[← hbx]
  clear c0e c1e c2e y1e;replace hb:=Lib.hid hb;replace hby:=Lib.hid hby
  replace hbx:=Lib.hid hbx;replace s0:=Lib.hid s0;replace s1:=Lib.hid s1;replace hW0:=Lib.hid hW0;replace hW1:=Lib.hid hW1;replace hW:=Lib.hid hW;refine cW.out.mono ?_;rintro e' wA ⟨rfl,rfl⟩;go_wp2;obtain⟨q1,q2⟩:(zan wA b ⟨d,A,N,c,B,m,e⟩).heap[b]?=some (.cells (⟨d,A,N,c,B,m,e⟩:RcV).arr 30 (0,0))∧Keep w1 (zan wA b ⟨d,A,N,c,B,m,e⟩):=⟨zbm _ zrc ((Keep.refl wA).block BZ.out),zbh _ (KW.out.trans (Keep.refl wA)) (by have:=hb.out;omega)⟩
  obtain⟨e0,e1,e2,_⟩:=zac q1;simp only[zan] at *;refine bodyPost_ret (v:=.tuple #[.agg #[.int .i64 d,.slice A N c,.slice B m e],.int .i64 3,.int .i64 r]) (by simp[results,Tryz.results24,go_sem,e0,e1,e2]) rfl ⟨A,c,N,P,rfl,q2,(h'.out.keep q2).less fun _=>Or.inl,no.out,fun hh=>hh⟩
 ·have hin:kd∈nk M:=Classical.byContradiction fun hn=>hc (by unfold adC;rw[← hr,if_neg hw,if_neg hn,if_neg (by omega)])
  have had:adC M d kd n2 Z=6:=by unfold adC;rw[← hr,if_neg hw,if_pos hin]
  have hwi:wrI d n2 Z=0:=by unfold wrI;rw[← hr,if_neg hw]
  rw[had,hwi];replace hwi:=Lib.hid hwi;have hf0:0≤findN P kd N:=fk.2 (by rw[← hkk];exact hin)
  have no:Hid ((lst P N).map nv=adL M d kd n2 Z):=by show _=_;unfold adL;rw[if_neg (by rw[had];decide)];exact hM
  replace had:=Lib.hid had;replace hr:=Lib.hid hr;replace fk:=Lib.hid fk;replace hkk:=Lib.hid hkk;replace hML:=Lib.hid hML;replace hM:=Lib.hid hM;replace hs:=Lib.hid hs;replace hin:=Lib.hid hin;obtain⟨q,hq⟩:∃ q,q=findN P kd N:=⟨_,rfl⟩;rw[← hq] at cF hf0;replace hq:=Lib.hid hq
  go_enter Tryz.func24,Tryz.ntmps24
  go_wp2_with fail;rw[← hW0,← hW1,← hW,← hb];try rw[← hby]
  try rw[← hbx]
  clear c0e c1e c2e y1e;replace hb:=Lib.hid hb;replace hby:=Lib.hid hby
  replace hbx:=Lib.hid hbx;replace s0:=Lib.hid s0;replace s1:=Lib.hid s1;replace hW0:=Lib.hid hW0;replace hW1:=Lib.hid hW1;replace hW:=Lib.hid hW;refine cW.out.mono ?_;rintro e' wA ⟨rfl,rfl⟩;go_wp2_with fail;refine cF.out.mono ?_;rintro e' w3 ⟨rfl,k3⟩;replace k3:=Lib.hid k3;clear c0 c1 c2' cf y0 y1 z0 z1 z2 zf cF cW;have BX3:Hid (w3.heap[bx]?=some (.cells (⟨d,A,N,c,B,m,e⟩:RcV).arr 30 (0,0))):=k3.out.block BX.out;have BY3:Hid (w3.heap[by']?=some (.cells #[.int .i64 kd,.slice A2 n2 c2] 55 (0,0))):=k3.out.block BY.out
  have BZ3:Hid (w3.heap[b]?=some (.cells zrc.arr 30 (0,0))):=k3.out.block BZ.out;obtain⟨c0,c1,c2',cf⟩:=zac BX3.out;have y0:w3.cell? ⟨by',0,none⟩=some (.int .i64 kd):=by rw[cell_of_row w3 by' _ _ _ _ BY3.out];rfl
  obtain⟨z0,z1,z2,zf⟩:=zac BZ3.out;unfold zrc at z0 z1 z2;go_wp2;obtain⟨q1,q2⟩:(zan w3 b ⟨d,A,N,c,B,m,e⟩).heap[b]?=some (.cells (⟨d,A,N,c,B,m,e⟩:RcV).arr 30 (0,0))∧Keep w1 (zan w3 b ⟨d,A,N,c,B,m,e⟩):=⟨zbm _ zrc ((k3.out).block BZ.out),zbh _ (KW.out.trans (k3.out)) (by have:=hb.out;omega)⟩
  obtain⟨e0,e1,e2,_⟩:=zac q1;simp only[zan] at *;refine bodyPost_ret (v:=.tuple #[.agg #[.int .i64 d,.slice A N c,.slice B m e],.int .i64 6,.int .i64 0]) (by simp[results,Tryz.results24,go_sem,e0,e1,e2]) rfl ⟨A,c,N,P,rfl,q2,(h'.out.keep q2).less fun _=>Or.inl,no.out,fun hh=>hh⟩
end Go.Proofs.YtihjgcibpfajkaaGreatDoor.C14
