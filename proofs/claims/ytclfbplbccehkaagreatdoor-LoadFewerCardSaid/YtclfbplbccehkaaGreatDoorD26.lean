/-
  The store: New, Dims, IDs, find, located. Condition for the last: errors.errorType holds its own.
  The store: hold, release, change. Conditions: errors.errorType holds its own; at most 1000 amounts, 64 dimensions.
  The store: Get, Used, Free. Conditions: at most 64 dimensions.
-/
import Derived.Test.YtclfbplbccehkaaGreatDoorD25
namespace Go.Proofs.YtclfbplbccehkaaGreatDoor.T12
open Go.RowKit Go.Sort Go.Lib V12 Go.Maps Go.Shelf
theorem located_nil (w:World):Calls Tryz.prog 83 #[.nilIface] w fun e w'=>e = .returned .nilIface∧Keep w w':=by
  have hA:=Lib.hid (fun W=>code_nil W)
  go_enter Tryz.func83,Tryz.ntmps83
  go_wp2_with fail
  refine (hA.out _).mono ?_
  rintro e w1 ⟨rfl,k⟩
  have k:=Lib.hid k
  go_wp2
  go_ret
  exact ⟨rfl,k.out⟩
theorem located_code (c:Int) (w:World) (hg:ErrT w):Calls Tryz.prog 83 #[err c] w fun e w'=>e = .returned (flt c 0)∧Keep w w':=by
  have hA:=Lib.hid (code_yes c [] (.code c) _ w (.base _) (Or.inl rfl) hg)
  have hn:=Lib.hid (fun W=>new_fn c 0 W)
  clear hg
  unfold err
  unfold flt
  go_enter Tryz.func83,Tryz.ntmps83
  go_wp2_with fail
  refine hA.out.mono ?_
  rintro e w1 ⟨rfl,k⟩
  have k:=Lib.hid k
  go_wp2_with fail
  refine (hn.out _).mono ?_
  rintro e w2 ⟨rfl,rfl⟩
  go_wp2
  go_ret
  exact ⟨rfl,k.out⟩
def errC (c:Int):Value:=if c = 0 then .nilIface else err c
theorem located_fn (c:Int) (w:World) (hg:ErrT w):Calls Tryz.prog 83 #[errC c] w fun e w'=>e = .returned (fltC c 0)∧Keep w w':=by
  unfold errC fltC
  by_cases h:c = 0
  · rw [if_pos h,if_pos h];exact located_nil w
  · rw [if_neg h,if_neg h];exact located_code c w hg
section
variable {w w':World} {d:Nat} {s:Int} {q t m:Nat} {E:List EnV}
theorem find_in (h:SC w d s q t m E) {id:Int} (hk:id ∈ ekeys E):Calls Tryz.prog 103 #[.pointer (some ⟨q,0,none⟩),.int .i64 id] w fun e w'=>e = .returned (.tuple #[.pointer (some ⟨(eget E id).p,0,none⟩),.bool true])∧w = w':=by
  have c1:=h.c1
  have hG:=Lib.hid (tget_in h hk)
  obtain ⟨p,hp⟩:∃ p,p = (eget E id).p:=⟨_,rfl⟩
  rw [← hp] at hG ⊢
  replace hp:=Lib.hid hp
  clear h hk
  go_enter Tryz.func103,Tryz.ntmps103
  go_wp2_with fail
  refine hG.out.mono ?_
  rintro e w1 ⟨rfl,rfl⟩
  go_wp2
  go_ret2
  exact ⟨rfl,rfl⟩
theorem find_out (h:SC w d s q t m E) {id:Int} (hk:id ∉ ekeys E):Calls Tryz.prog 103 #[.pointer (some ⟨q,0,none⟩),.int .i64 id] w fun e w'=>e = .returned (.tuple #[.pointer none,.bool false])∧w = w':=by
  have c1:=h.c1
  have hG:=Lib.hid (tget_out h hk)
  clear h hk
  go_enter Tryz.func103,Tryz.ntmps103
  go_wp2_with fail
  refine hG.out.mono ?_
  rintro e w1 ⟨rfl,rfl⟩
  go_wp2
  go_ret2
  exact ⟨rfl,rfl⟩
theorem find_nil (w:World) (id:Int):Calls Tryz.prog 103 #[.pointer none,.int .i64 id] w fun e w'=>e = .returned (.tuple #[.pointer none,.bool false])∧w = w':=by
  go_enter Tryz.func103,Tryz.ntmps103
  go_wp2
  go_ret2
  exact ⟨rfl,rfl⟩
theorem ndims_fn (h:SC w d s q t m E):Calls Tryz.prog 88 #[.pointer (some ⟨q,0,none⟩)] w fun e w'=>e = .returned (.int .i64 d)∧Keep w w':=by
  have c0:=h.c0
  clear h
  go_enter Tryz.func88,Tryz.ntmps88
  go_wp2
  go_ret
  exact ⟨rfl,Keep.refl _⟩
theorem nnew_fn (d:Nat) (s:Int) (w:World) (hd:d≤64) (h0:0≤s) (hs:I64 s):Calls Tryz.prog 53 #[.int .i64 d,.int .i64 s] w fun e w'=>∃ q,e = .returned (.pointer (some ⟨q,0,none⟩))∧∃ t m,SC w' d s q t m []∧Keep w w'∧w.heap.size≤q∧w.heap.size≤t∧w.heap.size≤m:=by
  have h:=tnnew_fn s hs w
  rw [if_pos h0] at h
  have hm:max (d:Int) 0 = (d:Int):=by omega
  have hb1:decide ((0:Int)≤(d:Int)) = true:=decide_eq_true (by omega)
  have hb2:decide ((d:Int) < 0) = false:=decide_eq_false (by omega)
  replace h:=Lib.hid h
  clear hs
  go_enter Tryz.func53,Tryz.ntmps53
  go_wp2_with fail
  refine h.out.mono ?_
  rintro e w1 ⟨t,rfl,m,T,k,h1,h2⟩
  have hn:=heap_alloc_new w1 (.cells #[.int .i64 d,.pointer (some ⟨t,0,none⟩)] 136)
  have K:=k.alloc (.cells #[.int .i64 d,.pointer (some ⟨t,0,none⟩)] 136)
  have T2:=T.keep (Keep.one w1 (.cells #[.int .i64 d,.pointer (some ⟨t,0,none⟩)] 136))
  have hsz:=k.size
  replace hn:=Lib.hid hn
  replace K:=Lib.hid K
  replace T2:=Lib.hid T2
  replace T:=Lib.hid T
  replace k:=Lib.hid k
  go_wp2
  try simp only [hm]
  go_ret
  exact ⟨_,rfl,t,m,⟨hn.out,⟨[],T2.out,List.Perm.nil⟩,List.Pairwise.nil,fun x h=>by cases h⟩,K.out,hsz,h1,h2⟩
end
end Go.Proofs.YtclfbplbccehkaaGreatDoor.T12

namespace Go.Proofs.YtclfbplbccehkaaGreatDoor.T12
open Go.RowKit Go.Sort Go.Lib V12
theorem tri_cel {w:World} {s:Nat} {a b c:Value} {T:TypeId} (h:w.heap[s]? = some (.cells #[a,b,c] T (0,0))):w.cell? ⟨s,0,none⟩ = some a∧w.cell? ⟨s,1,none⟩ = some b∧w.cell? ⟨s,2,none⟩ = some c∧∀ i,w.frozen? ⟨s,i,none⟩ = false:=by
  refine ⟨?_,?_,?_,fun i=>frozen_of_row w s i _ _ h⟩ <;> rw [cell_of_row w s _ _ _ _ h] <;> rfl
theorem add2_fn (w:World) (b d e c:Nat) (B A:Option Addr) (U Z:Nat→Int) (hb:w.heap[b]? = some (.cells #[.slice B d e,.slice A d c] 24 (0,0))) (hU:Rd w B d U) (hZ:Rd w A d Z) (hd:d≤1000) (hs:∀ j,j < d→-9223372036854775808≤U j + Z j∧U j + Z j≤9223372036854775807) :
    Calls Tryz.prog 35 #[.slice (some ⟨b,0,none⟩) 2 2] w fun e w'=>∃ g,e = .returned (.tuple #[.slice (some ⟨g,0,none⟩) d d,.bool true])∧Row w w' (some ⟨g,0,none⟩) d d (fun j=>U j + Z j)∧Keep w w':=by
  have c0:w.cell? ⟨b,0,none⟩ = some (.slice B d e):=by rw [cell_of_row w b _ _ _ _ hb];rfl
  have c1:w.cell? ⟨b,1,none⟩ = some (.slice A d c):=by rw [cell_of_row w b _ _ _ _ hb];rfl
  have hL:Rds w (some ⟨b,0,none⟩) 2 (fun r=>if r = 0 then B else A) (fun _=>d) (fun r=>if r = 0 then e else c) (fun r=>if r = 0 then U else Z):=by
    refine ⟨by omega,fun _=>⟨b,0,rfl,fun j hj=>?_⟩,fun r hr=>?_⟩
    · rcases j with _ | _ | j
      · exact c0
      · exact c1
      · omega
    · rcases r with _ | _ | r
      · exact hU
      · exact hZ
      · omega
  have hsum:∀ k,sumTo 2 (fun r=>(if r = 0 then U else Z) k) = U k + Z k:=fun k=>by
    unfold sumTo sumTo sumTo
    simp
  have ok:AddOk 2 (fun _=>d) (fun r=>if r = 0 then U else Z):=by
    refine ⟨by omega,fun _ _=>rfl,fun k hk=>?_⟩
    rw [hsum]
    unfold inR
    exact decide_eq_true (hs k hk)
  refine (add_some (some ⟨b,0,none⟩) 2 2 _ _ _ _ w hL (by omega) (fun _ _=>by omega) (by omega)).mono ?_
  rintro e w' ⟨k,⟨_,he,hr⟩ | ⟨h,_⟩⟩
  · have e2:(fun k=>Value.int IntKind.i64 (sumTo 2 fun r=>(if r = 0 then U else Z) k)) = fun k=>.int .i64 (U k + Z k):=by
      funext k
      rw [hsum]
    rw [e2] at hr
    exact ⟨_,he,row_is hr (Nat.le_refl _) (by omega) hs,k⟩
  · exact absurd ok h
def EPost (w:World) (d p:Nat) (x:NodeV) (r:Bool) (Z:Nat→Int) (e:Ending) (w':World):Prop :=
  (chOk d x r Z = false∧e = .returned (.bool false)∧Keep w w')∨(chOk d x r Z = true∧e = .returned (.bool true)∧∃ w1 B c,Keep w w1∧Row w w1 B d c (chU r x.U Z)∧w' = w1.setCell ⟨p,2,none⟩ (.slice B d c))
theorem fits_hold {d:Nat} {x:NodeV} {Z:Nat→Int} (ok:NodeOk d x) (hz:∀ j,j < d→0≤Z j∧Z j≤1099511627776):fitsB d (fun j=>x.U j + Z j) d x.C = chOk d x false Z:=by
  rw [Bool.eq_iff_iff,chOk_iff]
  unfold fitsB
  rw [decide_eq_true_eq]
  constructor
  · intro h j hj
    have:=h.2 j hj
    have:=ok.lo j hj
    have:=hz j hj
    unfold chU
    simp only [Bool.false_eq_true,if_false]
    exact ⟨by omega,by assumption⟩
  · intro h
    refine ⟨rfl,fun j hj=>?_⟩
    have:=(h j hj).2
    unfold chU at this
    simpa using this
theorem sub_rel {d:Nat} {x:NodeV} {Z:Nat→Int} (ok:NodeOk d x) (hz:∀ j,j < d→0≤Z j∧Z j≤1099511627776):SubOk d x.U d Z ↔ chOk d x true Z = true:=by
  rw [chOk_iff]
  unfold SubOk subOk chU
  simp only [if_true,decide_eq_true_eq]
  constructor
  · intro h j hj
    have h1:=h.2 j hj
    have h2:=ok.hi j hj
    have h3:=hz j hj
    omega
  · intro h
    refine ⟨trivial,fun j hj=>?_⟩
    have h1:=h j hj
    have h2:=ok.hi j hj
    have h3:=ok.max j hj
    have h4:=hz j hj
    omega
set_option maxRecDepth 100000 in
set_option maxHeartbeats 4000000 in
theorem en_hold {w:World} {d:Nat} {x:EnV} (hx:EIs w d x) (A:Option Addr) (c:Nat) (Z:Nat→Int) (hA:Rd w A d Z) (hz:∀ j,j < d→0≤Z j∧Z j≤1099511627776) (hd:d≤1000) :
    Calls Tryz.prog 80 #[.pointer (some ⟨x.p,0,none⟩),.slice A d c] w (EPost w d x.p x.nv false Z):=by
  obtain ⟨W,hW⟩:∃ W,W = w.alloc (.cells #[.slice x.B d x.e,.slice A d c] 24):=⟨_,rfl⟩
  have KW:Hid (Keep w W):=by rw [hW];exact Keep.one _ _
  have hb:W.heap[w.heap.size]? = some (.cells #[.slice x.B d x.e,.slice A d c] 24 (0,0)):=by rw [hW];exact heap_alloc_new _ _
  have hr:∀ j,j < d→-9223372036854775808≤x.U j + Z j∧x.U j + Z j≤9223372036854775807:=fun j hj=>by
    have h1:0≤x.U j:=hx.ok.lo j hj
    have h2:x.U j≤x.C j:=hx.ok.hi j hj
    have h3:x.C j≤1099511627776:=hx.ok.max j hj
    have h4:=hz j hj
    omega
  have cA:=add2_fn W w.heap.size d x.e c x.B A x.U Z hb (hx.ru.keep KW.out) (hA.keep KW.out) hd hr
  have hf:=fits_hold hx.ok hz
  obtain ⟨f,hff⟩:∃ f,f = chOk d x.nv false Z:=⟨_,rfl⟩
  rw [← hff] at hf
  have cF:Hid (∀ W' B,Keep w W'→Rd W' B d (fun j=>x.U j + Z j)→Calls Tryz.prog 40 #[.slice B d d,.slice x.A d x.c] W' fun e w'=>e = .returned (.bool f)∧Keep W' w'):=fun W' B k r =>
    (fits_is B x.A d d d x.c _ x.C W' r (hx.rc.keep k) f hf).mono fun _ _ h=>⟨h.1,h.2.keep⟩
  have eU:Hid ((fun j=>x.U j + Z j) = chU false x.nv.U Z):=by show _ = _;funext j;unfold chU;simp;rfl
  have hblk:=Lib.hid hx.blk
  have c12:=tri_cel hx.blk
  obtain ⟨_,c1,c2,_⟩:=c12
  have T:Hid (∀ W',Keep w W'→W'.cell? ⟨x.p,1,none⟩ = some (.slice x.A d x.c)∧W'.cell? ⟨x.p,2,none⟩ = some (.slice x.B d x.e)∧∀ i,W'.frozen? ⟨x.p,i,none⟩ = false):=fun W' k=>(tri_cel (k.block hx.blk)).2
  obtain ⟨p,hp⟩:∃ p,p = x.p:=⟨_,rfl⟩
  rw [← hp] at c1 c2 T hblk ⊢
  replace hp:=Lib.hid hp
  replace hff:=Lib.hid hff
  replace hb:=Lib.hid hb
  replace cA:=Lib.hid cA
  have hpl:=cell_lt c2
  clear hx hA hz hr hf
  go_enter Tryz.func80,Tryz.ntmps80
  go_wp2_with fail
  rw [← hW]
  replace hW:=Lib.hid hW
  refine cA.out.mono ?_
  rintro e w1 ⟨g,rfl,R1,k1⟩
  have K1:=Lib.hid (KW.out.trans k1)
  have cF1:=Lib.hid (cF.out w1 _ K1.out R1.rd)
  obtain ⟨d1,d2,d3⟩:=T.out w1 K1.out
  replace R1:=Lib.hid R1
  replace k1:=Lib.hid k1
  clear cA c1 c2 hpl
  go_wp2_with fail
  refine cF1.out.mono ?_
  rintro e w2 ⟨rfl,k2⟩
  have K2:=Lib.hid (K1.out.trans k2)
  have R2:Hid (Row w w2 (some ⟨g,0,none⟩) d d (fun j=>x.U j + Z j)):=(R1.out.keep k2).low KW.out.size
  rw [eU.out] at R2
  clear d1 d2 d3
  obtain ⟨e1,e2,e3⟩:=T.out w2 K2.out
  replace k2:=Lib.hid k2
  cases f with
  | false =>
    go_wp2
    go_ret
    exact Or.inl ⟨hff.out.symm,rfl,K2.out⟩
  | true =>
    go_wp2
    go_ret
    exact Or.inr ⟨hff.out.symm,rfl,w2,_,_,K2.out,R2.out,rfl⟩
set_option maxRecDepth 100000 in
set_option maxHeartbeats 4000000 in
theorem en_release {w:World} {d:Nat} {x:EnV} (hx:EIs w d x) (A:Option Addr) (c:Nat) (Z:Nat→Int) (hA:Rd w A d Z) (hz:∀ j,j < d→0≤Z j∧Z j≤1099511627776) (hd:d≤1000) :
    Calls Tryz.prog 112 #[.pointer (some ⟨x.p,0,none⟩),.slice A d c] w (EPost w d x.p x.nv true Z):=by
  have cS:=sub_any x.B A d d x.e c x.U Z w hx.ru hA (by omega)
  have hf:=sub_rel hx.ok hz
  have hr:Hid (chOk d x.nv true Z = true→∀ j,j < d→-9223372036854775808≤x.U j - Z j∧x.U j - Z j≤9223372036854775807):=fun h j hj=>by
    have h1:0≤x.U j:=hx.ok.lo j hj
    have h2:x.U j≤x.C j:=hx.ok.hi j hj
    have h3:x.C j≤1099511627776:=hx.ok.max j hj
    have h4:=hz j hj
    omega
  have eU:Hid ((fun j=>x.U j - Z j) = chU true x.nv.U Z):=by show _ = _;funext j;unfold chU;simp;rfl
  obtain ⟨_,c1,c2,_⟩:=tri_cel hx.blk
  have T:Hid (∀ W',Keep w W'→W'.cell? ⟨x.p,1,none⟩ = some (.slice x.A d x.c)∧W'.cell? ⟨x.p,2,none⟩ = some (.slice x.B d x.e)∧∀ i,W'.frozen? ⟨x.p,i,none⟩ = false):=fun W' k=>(tri_cel (k.block hx.blk)).2
  obtain ⟨f,hff⟩:∃ f,f = chOk d x.nv true Z:=⟨_,rfl⟩
  rw [← hff] at hf hr
  obtain ⟨p,hp⟩:∃ p,p = x.p:=⟨_,rfl⟩
  rw [← hp] at c1 c2 T ⊢
  replace hp:=Lib.hid hp
  replace hff:=Lib.hid hff
  replace hf:=Lib.hid hf
  replace cS:=Lib.hid cS
  clear hx hA hz
  go_enter Tryz.func112,Tryz.ntmps112
  go_wp2_with fail
  refine cS.out.mono ?_
  rintro e w1 ⟨k1,⟨ok,rfl,R1⟩ | ⟨no,rfl⟩⟩
  · have K1:Hid (Keep w w1):=k1
    have ft:f = true:=hf.out.1 ok
    have R2:Hid (Row w w1 (some ⟨w.heap.size,0,none⟩) d d (fun j=>x.U j - Z j)):=row_is R1 (Nat.le_refl _) (by omega) (hr.out ft)
    rw [eU.out] at R2
    clear c1 c2
    obtain ⟨e1,e2,e3⟩:=T.out w1 K1.out
    replace k1:=Lib.hid k1
    replace R1:=Lib.hid R1
    replace ok:=Lib.hid ok
    go_wp2
    go_ret
    exact Or.inr ⟨hff.out.symm.trans ft,rfl,w1,_,_,K1.out,R2.out,rfl⟩
  · have K1:Hid (Keep w w1):=k1
    have ft:f = false:=by
      cases f
      · rfl
      · exact absurd (hf.out.2 rfl) no
    replace k1:=Lib.hid k1
    replace no:=Lib.hid no
    go_wp2
    go_ret
    exact Or.inl ⟨hff.out.symm.trans ft,rfl,K1.out⟩
def After (w w':World) (d:Nat) (s:Int) (q t m:Nat) (E:List EnV) (M:List NodeV):Prop :=
  ∃ E',SC w' d s q t m E'∧E'.map EnV.nv = M∧FrS (DE m E) w w'∧(∀ k,DE m E' k→DE m E k∨w.heap.size≤k)∧∀ k,FE d q t m E' k→FE d q t m E k∨w.heap.size≤k
section
variable {w w':World} {d:Nat} {s:Int} {q t m:Nat} {E:List EnV}
theorem After.same (h:SC w d s q t m E) (k:Keep w w'):After w w' d s q t m E (E.map EnV.nv):=⟨E,h.keep k,rfl,FrS.of k,fun _ h=>Or.inl h,fun _ h=>Or.inl h⟩
theorem After.used (h:SC w d s q t m E) {id:Int} (hk:id ∈ ekeys E) {w1:World} {B:Option Addr} {c:Nat} {U:Nat→Int} (k1:Keep w w1) (R:Row w w1 B d c U) (ok:NodeOk d ⟨id,(nget (E.map EnV.nv) id).C,U⟩) :
    After w (w1.setCell ⟨(eget E id).p,2,none⟩ (.slice B d c)) d s q t m E (G.rep NodeV.k (E.map EnV.nv) ⟨id,(nget (E.map EnV.nv) id).C,U⟩):=by
  have h1:=h.keep k1
  have hx:=(eget_in hk).1
  rw [← nv_rep hk B c U]
  rw [← nv_get] at ok
  refine ⟨_,h1.used hk B c U R.rd R.nil R.ty ok,rfl,FrS.after k1 (FrS.ent (h1.is _ hx).blk (Or.inr ⟨_,hx,rfl⟩)),fun k hk2=>Or.inl (DE.rep (y:={ eget E id with B:=B,e:=c,U:=U }) hx rfl k hk2),fun k hk2=>?_⟩
  rcases hk2 with rfl | rfl | rfl | ⟨y,hy,h2⟩
  · exact Or.inl (Or.inl rfl)
  · exact Or.inl (Or.inr (Or.inl rfl))
  · exact Or.inl (Or.inr (Or.inr (Or.inl rfl)))
  · rcases G.rep_mem hy with hy | rfl
    · exact Or.inl (Or.inr (Or.inr (Or.inr ⟨y,hy,h2⟩)))
    · rcases h2 with h2 | ⟨hd,⟨o,h2⟩ | ⟨o,h2⟩⟩
      · exact Or.inl (Or.inr (Or.inr (Or.inr ⟨_,hx,Or.inl h2⟩)))
      · exact Or.inl (Or.inr (Or.inr (Or.inr ⟨_,hx,Or.inr ⟨hd,Or.inl ⟨o,h2⟩⟩⟩)))
      · right
        obtain ⟨b,off,e,hb,_⟩:=R.new hd
        have e2:B = some ⟨k,o,none⟩:=h2
        rw [e] at e2
        simp only [Option.some.injEq,Addr.mk.injEq,and_true] at e2
        omega
set_option maxRecDepth 100000 in
set_option maxHeartbeats 4000000 in
theorem change_hold (h:SC w d s q t m E) (id:Int) (A:Option Addr) (n c:Nat) (Z:Nat→Int) (hA:Rd w A n Z) (hd:d≤64) :
    Calls Tryz.prog 79 #[.pointer (some ⟨q,0,none⟩),.int .i64 id,.slice A n c,.func (.func 80) #[] #[]] w fun e w'=>e = .returned (fltC (chC (E.map EnV.nv) d id n Z false) 0)∧After w w' d s q t m E (chL (E.map EnV.nv) d id n Z false):=by
  have hn:=Lib.hid (fun x y W=>new_fn x y W)
  unfold chL chC
  rw [nv_keys]
  by_cases hk:id ∈ ekeys E
  · rw [if_neg (not_not_intro hk)]
    have hF:=Lib.hid (find_in h hk)
    have hW:=vwrong_any A n c Z d w hA
    have c0:=h.c0
    by_cases hw:0≤wrongOf n Z d
    · rw [if_pos hw,if_neg (by decide)]
      obtain ⟨g,hg⟩:∃ g,g = wrongOf n Z d:=⟨_,rfl⟩
      rw [← hg] at hW hw
      replace hg:=Lib.hid hg
      replace hW:=Lib.hid hW
      have fin:=Lib.hid (After.same h (Keep.refl w))
      unfold fltC flt
      rw [if_neg (by decide)]
      clear h hk hA
      go_enter Tryz.func79,Tryz.ntmps79
      go_wp2_with fail
      refine hF.out.mono ?_
      rintro e w1 ⟨rfl,rfl⟩
      go_wp2_with fail
      refine hW.out.mono ?_
      rintro e w1 ⟨rfl,rfl⟩
      go_wp2_with fail
      refine (hn.out 3 0 _).mono ?_
      rintro e w1 ⟨rfl,rfl⟩
      go_wp2
      go_ret
      exact ⟨rfl,fin.out⟩
    · rw [if_neg hw]
      obtain ⟨rfl,hz⟩:=wrong_no hw
      have hx:=(eget_in hk).1
      have hB:=en_hold (h.is _ hx) A c Z hA hz (by omega)
      have e0:G.get NodeV.k zn (E.map EnV.nv) id = (eget E id).nv:=(nv_get E id).symm
      rw [e0]
      have ok0:=(h.is _ hx).ok
      have fin:Hid (∀ w1 B c,chOk n (eget E id).nv false Z = true→Keep w w1→Row w w1 B n c (chU false (eget E id).nv.U Z)→After w (w1.setCell ⟨(eget E id).p,2,none⟩ (.slice B n c)) n s q t m E (G.rep NodeV.k (E.map EnV.nv) ⟨id,(eget E id).nv.C,chU false (eget E id).nv.U Z⟩)):=fun w1 B c hc k R=>by
        have:=After.used h hk k R (by
          rw [← nv_get]
          rw [chOk_iff] at hc
          have hk2:=(eget_in hk).2
          exact ⟨by rw [← hk2];exact ok0.k,fun j hj=>(hc j hj).1,fun j hj=>(hc j hj).2,ok0.max⟩)
        rw [← nv_get] at this
        exact this
      have fin0:Hid (∀ w',Keep w w'→After w w' n s q t m E (E.map EnV.nv)):=fun w' k=>After.same h k
      obtain ⟨x,hxx⟩:∃ x,x = eget E id:=⟨_,rfl⟩
      rw [← hxx] at hF hB fin ⊢
      obtain ⟨g,hg⟩:∃ g,g = wrongOf n Z n:=⟨_,rfl⟩
      rw [← hg] at hW hw
      obtain ⟨ok,hok⟩:∃ ok,ok = chOk n x.nv false Z:=⟨_,rfl⟩
      unfold EPost at hB
      rw [← hok] at hB fin ⊢
      replace hok:=Lib.hid hok
      replace hg:=Lib.hid hg
      replace hW:=Lib.hid hW
      replace hB:=Lib.hid hB
      obtain ⟨p,hp⟩:∃ p,p = x.p:=⟨_,rfl⟩
      rw [← hp] at hF hB fin
      replace hp:=Lib.hid hp
      replace hxx:=Lib.hid hxx
      clear h hk hA hx e0 ok0 hz
      go_enter Tryz.func79,Tryz.ntmps79
      go_wp2_with fail
      refine hF.out.mono ?_
      rintro e w1 ⟨rfl,rfl⟩
      go_wp2_with fail
      refine hW.out.mono ?_
      rintro e w1 ⟨rfl,rfl⟩
      go_wp2_with fail
      refine hB.out.mono ?_
      rintro e w1 (⟨h1,rfl,k⟩ | ⟨h1,rfl,w2,B,c2,k,R,hw'⟩)
      · have k:=Lib.hid k
        subst h1
        go_wp2_with fail
        refine (hn.out 10 0 _).mono ?_
        rintro e w2 ⟨rfl,rfl⟩
        go_wp2
        go_ret
        exact ⟨rfl,fin0.out _ k.out⟩
      · have A5:=Lib.hid (fin.out w2 B c2 h1 k R)
        rw [← hw'] at A5
        subst h1
        replace hw':=Lib.hid hw'
        replace R:=Lib.hid R
        replace k:=Lib.hid k
        go_wp2
        go_ret
        exact ⟨rfl,A5.out⟩
  · rw [if_pos hk,if_neg (by decide)]
    have hF:=Lib.hid (find_out h hk)
    have fin:=Lib.hid (After.same h (Keep.refl w))
    unfold fltC flt
    rw [if_neg (by decide)]
    clear h hk hA
    go_enter Tryz.func79,Tryz.ntmps79
    go_wp2_with fail
    refine hF.out.mono ?_
    rintro e w1 ⟨rfl,rfl⟩
    go_wp2_with fail
    refine (hn.out 5 0 _).mono ?_
    rintro e w1 ⟨rfl,rfl⟩
    go_wp2
    go_ret
    exact ⟨rfl,fin.out⟩
theorem nhold_fn (h:SC w d s q t m E) (id:Int) (A:Option Addr) (n c:Nat) (Z:Nat→Int) (hA:Rd w A n Z) (hd:d≤64) :
    Calls Tryz.prog 50 #[.pointer (some ⟨q,0,none⟩),.int .i64 id,.slice A n c] w fun e w'=>e = .returned (fltC (chC (E.map EnV.nv) d id n Z false) 0)∧After w w' d s q t m E (chL (E.map EnV.nv) d id n Z false):=by
  have hC:=Lib.hid (change_hold h id A n c Z hA hd)
  clear h hA
  go_enter Tryz.func50,Tryz.ntmps50
  go_wp2_with fail
  refine hC.out.mono ?_
  rintro e w1 ⟨rfl,F⟩
  have F:=Lib.hid F
  go_wp2
  go_ret
  exact ⟨rfl,F.out⟩
set_option maxRecDepth 100000 in
set_option maxHeartbeats 4000000 in
theorem change_release (h:SC w d s q t m E) (id:Int) (A:Option Addr) (n c:Nat) (Z:Nat→Int) (hA:Rd w A n Z) (hd:d≤64) :
    Calls Tryz.prog 79 #[.pointer (some ⟨q,0,none⟩),.int .i64 id,.slice A n c,.func (.func 112) #[] #[]] w fun e w'=>e = .returned (fltC (chC (E.map EnV.nv) d id n Z true) 0)∧After w w' d s q t m E (chL (E.map EnV.nv) d id n Z true):=by
  have hn:=Lib.hid (fun x y W=>new_fn x y W)
  unfold chL chC
  rw [nv_keys]
  by_cases hk:id ∈ ekeys E
  · rw [if_neg (not_not_intro hk)]
    have hF:=Lib.hid (find_in h hk)
    have hW:=vwrong_any A n c Z d w hA
    have c0:=h.c0
    by_cases hw:0≤wrongOf n Z d
    · rw [if_pos hw,if_neg (by decide)]
      obtain ⟨g,hg⟩:∃ g,g = wrongOf n Z d:=⟨_,rfl⟩
      rw [← hg] at hW hw
      replace hg:=Lib.hid hg
      replace hW:=Lib.hid hW
      have fin:=Lib.hid (After.same h (Keep.refl w))
      unfold fltC flt
      rw [if_neg (by decide)]
      clear h hk hA
      go_enter Tryz.func79,Tryz.ntmps79
      go_wp2_with fail
      refine hF.out.mono ?_
      rintro e w1 ⟨rfl,rfl⟩
      go_wp2_with fail
      refine hW.out.mono ?_
      rintro e w1 ⟨rfl,rfl⟩
      go_wp2_with fail
      refine (hn.out 3 0 _).mono ?_
      rintro e w1 ⟨rfl,rfl⟩
      go_wp2
      go_ret
      exact ⟨rfl,fin.out⟩
    · rw [if_neg hw]
      obtain ⟨rfl,hz⟩:=wrong_no hw
      have hx:=(eget_in hk).1
      have hB:=en_release (h.is _ hx) A c Z hA hz (by omega)
      have e0:G.get NodeV.k zn (E.map EnV.nv) id = (eget E id).nv:=(nv_get E id).symm
      rw [e0]
      have ok0:=(h.is _ hx).ok
      have fin:Hid (∀ w1 B c,chOk n (eget E id).nv true Z = true→Keep w w1→Row w w1 B n c (chU true (eget E id).nv.U Z)→After w (w1.setCell ⟨(eget E id).p,2,none⟩ (.slice B n c)) n s q t m E (G.rep NodeV.k (E.map EnV.nv) ⟨id,(eget E id).nv.C,chU true (eget E id).nv.U Z⟩)):=fun w1 B c hc k R=>by
        have:=After.used h hk k R (by
          rw [← nv_get]
          rw [chOk_iff] at hc
          have hk2:=(eget_in hk).2
          exact ⟨by rw [← hk2];exact ok0.k,fun j hj=>(hc j hj).1,fun j hj=>(hc j hj).2,ok0.max⟩)
        rw [← nv_get] at this
        exact this
      have fin0:Hid (∀ w',Keep w w'→After w w' n s q t m E (E.map EnV.nv)):=fun w' k=>After.same h k
      obtain ⟨x,hxx⟩:∃ x,x = eget E id:=⟨_,rfl⟩
      rw [← hxx] at hF hB fin ⊢
      obtain ⟨g,hg⟩:∃ g,g = wrongOf n Z n:=⟨_,rfl⟩
      rw [← hg] at hW hw
      obtain ⟨ok,hok⟩:∃ ok,ok = chOk n x.nv true Z:=⟨_,rfl⟩
      unfold EPost at hB
      rw [← hok] at hB fin ⊢
      replace hok:=Lib.hid hok
      replace hg:=Lib.hid hg
      replace hW:=Lib.hid hW
      replace hB:=Lib.hid hB
      obtain ⟨p,hp⟩:∃ p,p = x.p:=⟨_,rfl⟩
      rw [← hp] at hF hB fin
      replace hp:=Lib.hid hp
      replace hxx:=Lib.hid hxx
      clear h hk hA hx e0 ok0 hz
      go_enter Tryz.func79,Tryz.ntmps79
      go_wp2_with fail
      refine hF.out.mono ?_
      rintro e w1 ⟨rfl,rfl⟩
      go_wp2_with fail
      refine hW.out.mono ?_
      rintro e w1 ⟨rfl,rfl⟩
      go_wp2_with fail
      refine hB.out.mono ?_
      rintro e w1 (⟨h1,rfl,k⟩ | ⟨h1,rfl,w2,B,c2,k,R,hw'⟩)
      · have k:=Lib.hid k
        subst h1
        go_wp2_with fail
        refine (hn.out 10 0 _).mono ?_
        rintro e w2 ⟨rfl,rfl⟩
        go_wp2
        go_ret
        exact ⟨rfl,fin0.out _ k.out⟩
      · have A5:=Lib.hid (fin.out w2 B c2 h1 k R)
        rw [← hw'] at A5
        subst h1
        replace hw':=Lib.hid hw'
        replace R:=Lib.hid R
        replace k:=Lib.hid k
        go_wp2
        go_ret
        exact ⟨rfl,A5.out⟩
  · rw [if_pos hk,if_neg (by decide)]
    have hF:=Lib.hid (find_out h hk)
    have fin:=Lib.hid (After.same h (Keep.refl w))
    unfold fltC flt
    rw [if_neg (by decide)]
    clear h hk hA
    go_enter Tryz.func79,Tryz.ntmps79
    go_wp2_with fail
    refine hF.out.mono ?_
    rintro e w1 ⟨rfl,rfl⟩
    go_wp2_with fail
    refine (hn.out 5 0 _).mono ?_
    rintro e w1 ⟨rfl,rfl⟩
    go_wp2
    go_ret
    exact ⟨rfl,fin.out⟩
theorem nrelease_fn (h:SC w d s q t m E) (id:Int) (A:Option Addr) (n c:Nat) (Z:Nat→Int) (hA:Rd w A n Z) (hd:d≤64) :
    Calls Tryz.prog 93 #[.pointer (some ⟨q,0,none⟩),.int .i64 id,.slice A n c] w fun e w'=>e = .returned (fltC (chC (E.map EnV.nv) d id n Z true) 0)∧After w w' d s q t m E (chL (E.map EnV.nv) d id n Z true):=by
  have hC:=Lib.hid (change_release h id A n c Z hA hd)
  clear h hA
  go_enter Tryz.func93,Tryz.ntmps93
  go_wp2_with fail
  refine hC.out.mono ?_
  rintro e w1 ⟨rfl,F⟩
  have F:=Lib.hid F
  go_wp2
  go_ret
  exact ⟨rfl,F.out⟩
end
end Go.Proofs.YtclfbplbccehkaaGreatDoor.T12

namespace Go.Proofs.YtclfbplbccehkaaGreatDoor.T12
open Go.RowKit Go.Sort Go.Lib V12
section
variable {w w':World} {d:Nat} {s:Int} {q t m:Nat} {E:List EnV}
set_option maxRecDepth 100000 in
set_option maxHeartbeats 4000000 in
theorem nget_in (h:SC w d s q t m E) {id:Int} (hk:id ∈ ekeys E) (hd:d≤64):Calls Tryz.prog 72 #[.pointer (some ⟨q,0,none⟩),.int .i64 id] w fun e w'=>∃ A c,e = .returned (.tuple #[.agg #[.int .i64 id,.slice A d c],.bool true])∧Row w w' A d c (eget E id).C∧Keep w w':=by
  obtain ⟨W,hW⟩:∃ W,W = w.alloc (.cells #[.int .i64 0,.slice none 0 0] 48):=⟨_,rfl⟩
  have KW:Hid (Keep w W):=by rw [hW];exact Keep.one _ _
  obtain ⟨b,hb⟩:∃ b,b = w.heap.size:=⟨_,rfl⟩
  have Y:Hid (W.heap[b]? = some (.cells #[.int .i64 0,.slice none 0 0] 48 (0,0))):=by rw [hW,hb];exact heap_alloc_new _ _
  have hsz:Hid (W.heap.size = b + 1):=by show _ = _;rw [hW,World.size_alloc,hb]
  have h1:=h.keep KW.out
  have hF:=Lib.hid (find_in h1 hk)
  have hx:=h1.is _ (eget_in hk).1
  have e0:=(eget_in hk).2
  obtain ⟨c0,c1,_,_⟩:=tri_cel hx.blk
  have cC:=clone_fn (eget E id).k _ d _ _ W hx.rc hx.na (by omega)
  rw [e0] at c0 cC
  replace cC:=Lib.hid cC
  obtain ⟨x,hxx⟩:∃ x,x = eget E id:=⟨_,rfl⟩
  rw [← hxx] at hF c0 c1 cC ⊢
  obtain ⟨p,hp⟩:∃ p,p = x.p:=⟨_,rfl⟩
  rw [← hp] at hF c0 c1
  replace hp:=Lib.hid hp
  replace hxx:=Lib.hid hxx
  have hbw:Hid (w.heap.size≤b):=by show _≤_;omega
  clear h h1 hk hx e0
  go_enter Tryz.func72,Tryz.ntmps72
  go_wp2_with fail
  rw [← hW,← hb]
  replace hW:=Lib.hid hW
  replace hb:=Lib.hid hb
  refine hF.out.mono ?_
  rintro e w1 ⟨rfl,rfl⟩
  go_wp2_with fail
  refine cC.out.mono ?_
  rintro e w1 ⟨A,c,rfl,R,k⟩
  obtain ⟨y0,y1,yf⟩:=cel2 (k.block Y.out)
  have R:=Lib.hid R
  have k:=Lib.hid k
  clear c0 c1 cC
  have B5:Hid (((w1.setCell ⟨b,0,none⟩ (.int .i64 id)).setCell ⟨b,1,none⟩ (.slice A d c)).heap[b]? = some (.cells #[.int .i64 id,.slice A d c] 48 (0,0))):=two_set (k.out.block Y.out)
  have K5:Hid (Keep w ((w1.setCell ⟨b,0,none⟩ (.int .i64 id)).setCell ⟨b,1,none⟩ (.slice A d c))):=two_keep (KW.out.trans k.out) hbw.out
  have R5:Hid (Row w ((w1.setCell ⟨b,0,none⟩ (.int .i64 id)).setCell ⟨b,1,none⟩ (.slice A d c)) A d c x.C):=(R.out.fr two_fr fun b2 o e hp hd=>by
    obtain ⟨b',o',e',hb',_⟩:=R.out.new hp
    rw [e] at e'
    have e2:=Option.some.inj e'
    simp only [Addr.mk.injEq,and_true] at e2
    have:=hsz.out
    omega).low KW.out.size
  go_wp2
  obtain ⟨z0,z1,_⟩:=cel2 B5.out
  refine bodyPost_ret (v:=.tuple #[.agg #[.int .i64 id,.slice A d c],.bool true]) (by simp [results,Tryz.results72,go_sem,z0,z1]) rfl ⟨A,c,rfl,R5.out,K5.out⟩
set_option maxRecDepth 100000 in
set_option maxHeartbeats 4000000 in
theorem nget_out (h:SC w d s q t m E) {id:Int} (hk:id ∉ ekeys E):Calls Tryz.prog 72 #[.pointer (some ⟨q,0,none⟩),.int .i64 id] w fun e w'=>e = .returned (.tuple #[.agg #[.int .i64 0,.slice none 0 0],.bool false])∧Keep w w':=by
  obtain ⟨W,hW⟩:∃ W,W = w.alloc (.cells #[.int .i64 0,.slice none 0 0] 48):=⟨_,rfl⟩
  have KW:Hid (Keep w W):=by rw [hW];exact Keep.one _ _
  obtain ⟨b,hb⟩:∃ b,b = w.heap.size:=⟨_,rfl⟩
  have Y:W.heap[b]? = some (.cells #[.int .i64 0,.slice none 0 0] 48 (0,0)):=by rw [hW,hb];exact heap_alloc_new _ _
  have hF:=Lib.hid (find_out (h.keep KW.out) hk)
  obtain ⟨y0,y1,yf⟩:=cel2 Y
  have B5:Hid (((W.setCell ⟨b,0,none⟩ (.int .i64 0)).setCell ⟨b,1,none⟩ (.slice none 0 0)).heap[b]? = some (.cells #[.int .i64 0,.slice none 0 0] 48 (0,0))):=two_set Y
  have K5:Hid (Keep w ((W.setCell ⟨b,0,none⟩ (.int .i64 0)).setCell ⟨b,1,none⟩ (.slice none 0 0))):=two_keep KW.out (by omega)
  replace Y:=Lib.hid Y
  clear h hk
  go_enter Tryz.func72,Tryz.ntmps72
  go_wp2_with fail
  rw [← hW,← hb]
  replace hW:=Lib.hid hW
  replace hb:=Lib.hid hb
  refine hF.out.mono ?_
  rintro e w1 ⟨rfl,rfl⟩
  go_wp2
  obtain ⟨z0,z1,_⟩:=cel2 B5.out
  refine bodyPost_ret (v:=.tuple #[.agg #[.int .i64 0,.slice none 0 0],.bool false]) (by simp [results,Tryz.results72,go_sem,z0,z1]) rfl ⟨rfl,K5.out⟩
end
end Go.Proofs.YtclfbplbccehkaaGreatDoor.T12

