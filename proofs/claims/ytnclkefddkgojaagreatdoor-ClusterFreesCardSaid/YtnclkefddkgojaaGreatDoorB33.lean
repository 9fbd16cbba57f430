/-
  The store: Add. Conditions: errors.errorType holds its own; at most 1000 amounts, 64 dimensions.
  The store: Add in one form; Drop. Conditions: errors.errorType holds its own; at most 1000 amounts, 64 dimensions.
-/
import Derived.Test.YtnclkefddkgojaaGreatDoorB32
import Derived.Deep.RegionHeld3
namespace Go.Proofs.YtnclkefddkgojaaGreatDoor.T12
open Go.RowKit Go.Sort Go.Lib V12
section
variable {w w':World} {d:Nat} {s:Int} {q t m:Nat} {E:List EnV}
theorem madeRd {W:World} {g n:Nat} (h:W.heap[g]? = some (.cells (madeCells #[.int .i64 0] n) 2 (0,0))) (hn:n≤1000):Rd W (some ⟨g,0,none⟩) n fun _=>0:=by
  refine ⟨by omega,fun _ _=>by decide,fun _=>⟨g,0,rfl,fun j hj=>?_⟩⟩
  have hs:(madeCells #[.int .i64 0] n).size = n:=by simp [madeCells]
  rw [Nat.zero_add,cell_of_row W g j _ _ _ h,Array.getElem?_eq_getElem (by omega)]
  simp [madeCells,Nat.mod_one]
theorem zero_row (n:Nat) (w:World) (hn:n≤1000):Calls Tryz.prog 93 #[.int .i64 n] w fun e w'=>∃ g,e = .returned (.slice (some ⟨g,0,none⟩) n n)∧Row w w' (some ⟨g,0,none⟩) n n (fun _=>0)∧Keep w w':=by
  refine (zero_fn n w (by omega)).mono ?_
  rintro e w' ⟨rfl,rfl⟩
  have hb:=heap_alloc_new w (.cells (madeCells #[.int .i64 0] n) 2)
  exact ⟨_,rfl,⟨madeRd hb hn,(fun e=>by cases e),fun _=>⟨_,0,rfl,Nat.le_refl _,fun j _=>frozen_of_row _ _ _ _ _ hb⟩,fun _ b o e=>by
    simp only [Option.some.injEq,Addr.mk.injEq,and_true] at e
    rw [← e.1]
    exact ⟨_,_,hb⟩⟩,Keep.one _ _⟩
theorem tadd_any (h:SC w d s q t m E) (x:EnV) (hx:EIs w d x):Calls Tryz.prog 92 #[.pointer (some ⟨t,0,none⟩),.int .i64 x.k,.pointer (some ⟨x.p,0,none⟩)] w fun e w'=>e = .returned (errC (if x.k ∈ ekeys E then 6 else if s≤E.length then 7 else 0))∧SC w' d s q t m (if x.k ∈ ekeys E then E else if s≤E.length then E else G.ins EnV.k x E)∧Fr (· = m) w w':=by
  have hl:=h.len
  by_cases hk:x.k ∈ ekeys E
  · simp only [if_pos hk]
    unfold errC
    rw [if_neg (by decide)]
    exact (tadd_dup h x.k x.p hk).mono fun _ _ ⟨he,hw⟩=>⟨he,by rw [← hw];exact h,by rw [← hw];exact Fr.refl _ _⟩
  · simp only [if_neg hk]
    by_cases hf:s≤(E.length:Int)
    · simp only [if_pos hf]
      unfold errC
      rw [if_neg (by decide)]
      exact (tadd_full h x.k x.p hk (by omega)).mono fun _ _ ⟨he,hw⟩=>⟨he,h.keep hw.keep,Fr.of hw.keep⟩
    · simp only [if_neg hf]
      unfold errC
      rw [if_pos rfl]
      exact tadd_new h x hx hk (by omega)
set_option maxRecDepth 100000 in
set_option maxHeartbeats 4000000 in
theorem nadd_wrong (h:SC w d s q t m E) (k:Int) (A:Option Addr) (n c:Nat) (Z:Nat→Int) (hA:Rd w A n Z) (hw:0≤wrongOf n Z d) :
    Calls Tryz.prog 58 #[.pointer (some ⟨q,0,none⟩),.agg #[.int .i64 k,.slice A n c]] w fun e w'=>e = .returned (flt 3 (wrongOf n Z d))∧Keep w w':=by
  obtain ⟨W,hW⟩:∃ W,W = w.alloc (.cells #[.int .i64 k,.slice A n c] 50):=⟨_,rfl⟩
  have KW:Hid (Keep w W):=by rw [hW];exact Keep.one _ _
  obtain ⟨b,hb⟩:∃ b,b = w.heap.size:=⟨_,rfl⟩
  have Y:W.heap[b]? = some (.cells #[.int .i64 k,.slice A n c] 50 (0,0)):=by rw [hW,hb];exact heap_alloc_new _ _
  obtain ⟨y0,y1,yf⟩:=cel2 Y
  have c0:=(h.keep KW.out).c0
  have cW:Hid (∀ W',Keep W W'→Calls Tryz.prog 90 #[.slice A n c,.int .i64 d] W' fun e w'=>e = .returned (.int .i64 (wrongOf n Z d))∧Keep W' w'):=fun W' k=>(vwrong_any A n c Z d W' (hA.keep (KW.out.trans k))).mono fun _ _ ⟨he,e⟩=>⟨he,by rw [e];exact Keep.refl _⟩
  have hn:=Lib.hid (fun y W=>new_fn 3 y W)
  obtain ⟨g,hg⟩:∃ g,g = wrongOf n Z d:=⟨_,rfl⟩
  rw [← hg] at cW hw ⊢
  replace hg:=Lib.hid hg
  unfold flt
  replace Y:=Lib.hid Y
  clear h hA
  go_enter Tryz.func58,Tryz.ntmps58
  go_wp2_with fail
  rw [← hW,← hb]
  replace hW:=Lib.hid hW
  replace hb:=Lib.hid hb
  go_region_held3 (fun w'=>w'.cell? ⟨b,1,none⟩ = some (.slice A n c)∧w'.cell? ⟨q,0,none⟩ = some (.int .i64 d))
    (first
      | ((refine (fun (KK:Keep W _)=>⟨KK.cell y1,KK.cell c0⟩) ?_;repeat (with_reducible first | exact Keep.refl W | apply Keep.drew | apply Keep.drewN | exact k6.out));done))
    (first | (go_at_call 90;refine (cW.out _ (by repeat (with_reducible first | exact Keep.refl W | apply Keep.drew | apply Keep.drewN))).mono ?_;rintro e w6 ⟨rfl,k6'⟩;have k6:Hid (Keep W w6):=Keep.trans (by repeat (with_reducible first | exact Keep.refl W | apply Keep.drew | apply Keep.drewN)) k6';replace k6':=Lib.hid k6'))
  all_goals
    clear y0 y1 c0 cW
    go_wp2_with fail
    refine (hn.out _ _).mono ?_
    rintro e w7 ⟨rfl,rfl⟩
    go_wp2
    go_ret
    exact ⟨rfl,KW.out.trans k6.out⟩
def AddX (W w':World) (d:Nat) (s:Int) (q t m:Nat) (E:List EnV) (k:Int) (Z:Nat→Int):Prop :=
  ∃ x:EnV,x.k = k∧x.C = Z∧x.U = (fun _=>0)∧SC w' d s q t m (if k ∈ ekeys E then E else if s≤E.length then E else G.ins EnV.k x E)∧FrS (· = m) W w' ∧
    W.heap.size≤x.p∧(0 < d→∃ b o,x.A = some ⟨b,o,none⟩∧W.heap.size≤b)∧(0 < d→∃ b o,x.B = some ⟨b,o,none⟩∧W.heap.size≤b)
set_option maxRecDepth 100000 in
set_option maxHeartbeats 16000000 in
theorem nadd_ok (h:SC w d s q t m E) (hg:ErrT w) (k:Int) (A:Option Addr) (c:Nat) (Z:Nat→Int) (hA:Rd w A d Z) (nilA:A = none→d = 0∧c = 0) (hw:¬ 0≤wrongOf d Z d) (hk:I64 k) (hz:∀ j,j < d→0≤Z j∧Z j≤1099511627776) (hd:d≤64) :
    Calls Tryz.prog 58 #[.pointer (some ⟨q,0,none⟩),.agg #[.int .i64 k,.slice A d c]] w fun e w'=>e = .returned (fltC (if k ∈ ekeys E then 6 else if s≤E.length then 7 else 0) 0)∧AddX w w' d s q t m E k Z:=by
  obtain ⟨W,hW⟩:∃ W,W = w.alloc (.cells #[.int .i64 k,.slice A d c] 50):=⟨_,rfl⟩
  have KW:Hid (Keep w W):=by rw [hW];exact Keep.one _ _
  obtain ⟨b,hb⟩:∃ b,b = w.heap.size:=⟨_,rfl⟩
  have Y:W.heap[b]? = some (.cells #[.int .i64 k,.slice A d c] 50 (0,0)):=by rw [hW,hb];exact heap_alloc_new _ _
  obtain ⟨y0,y1,yf⟩:=cel2 Y
  have hW1:=h.keep KW.out
  have c0:=hW1.c0
  have c1:=hW1.c1
  have nq:=hW1.qm
  have nbm:¬ b = m:=hW1.off (a:=⟨b,0,none⟩) y0
  have cW:Hid (∀ W',Keep W W'→Calls Tryz.prog 90 #[.slice A d c,.int .i64 d] W' fun e w'=>e = .returned (.int .i64 (wrongOf d Z d))∧Keep W' w'):=fun W' k=>(vwrong_any A d c Z d W' (hA.keep (KW.out.trans k))).mono fun _ _ ⟨he,e⟩=>⟨he,by rw [e];exact Keep.refl _⟩
  have cC:Hid (∀ W',Keep W W'→Calls Tryz.prog 80 #[.agg #[.int .i64 k,.slice A d c]] W' fun e w'=>∃ A' c',e = .returned (.agg #[.int .i64 k,.slice A' d c'])∧Row W w' A' d c' Z∧Keep W w'):=fun W' k2=>(clone_fn k A d c Z W' (hA.keep (KW.out.trans k2)) nilA (by omega)).mono fun _ _ ⟨A',c',he,r,k3⟩=>⟨A',c',he,r.low k2.size,k2.trans k3⟩
  have cZ:Hid (∀ W',Keep W W'→Calls Tryz.prog 93 #[.int .i64 d] W' fun e w'=>∃ g,e = .returned (.slice (some ⟨g,0,none⟩) d d)∧Row W w' (some ⟨g,0,none⟩) d d (fun _=>0)∧Keep W w'∧Keep W' w'):=fun W' k2=>(zero_row d W' (by omega)).mono fun _ _ ⟨g,he,r,k3⟩=>⟨g,he,r.low k2.size,k2.trans k3,k3⟩
  obtain ⟨code,hcode⟩:∃ code:Int,code = if k ∈ ekeys E then 6 else if s≤E.length then 7 else 0:=⟨_,rfl⟩
  obtain ⟨ev,hev⟩:∃ ev,ev = errC code:=⟨_,rfl⟩
  obtain ⟨fv,hfv⟩:∃ fv,fv = fltC code 0:=⟨_,rfl⟩
  have cT:Hid (∀ W' A' c' g p,Keep W W'→Row W W' A' d c' Z→Row W W' (some ⟨g,0,none⟩) d d (fun _=>0)→W'.heap[p]? = some (.cells #[.int .i64 k,.slice A' d c',.slice (some ⟨g,0,none⟩) d d] 137 (0,0))→W.heap.size≤p →
      Calls Tryz.prog 92 #[.pointer (some ⟨t,0,none⟩),.int .i64 k,.pointer (some ⟨p,0,none⟩)] W' fun e w'=>e = .returned ev∧Fr (· = m) W' w'∧ErrT w'∧AddX W w' d s q t m E k Z):=fun W' A' c' g p k2 ra rb hp hpl=>by
    have h2:=hW1.keep k2
    have gT:ErrT W':=hg.keep (KW.out.trans k2)
    refine (tadd_any h2 ⟨k,p,A',c',Z,some ⟨g,0,none⟩,d,fun _=>0⟩ ⟨hp,ra.rd,rb.rd,ra.nil,(fun e=>by cases e),ra.ty,rb.ty,⟨hk,fun j _=>Int.le_refl 0,fun j hj=>(hz j hj).1,fun j hj=>(hz j hj).2⟩⟩).mono ?_
    rintro e w' ⟨he,hs,hf⟩
    refine ⟨by rw [hev,hcode];exact he,hf,hf.cell gT (h2.off gT),⟨k,p,A',c',Z,some ⟨g,0,none⟩,d,fun _=>0⟩,rfl,rfl,rfl,hs,FrS.after k2 (fr_int h2 hf fun _ e=>e),hpl,fun hd0=>?_,fun hd0=>?_⟩
    · obtain ⟨b2,o2,e2,hb2,_⟩:=ra.new hd0
      exact ⟨b2,o2,e2,hb2⟩
    · obtain ⟨b2,o2,e2,hb2,_⟩:=rb.new hd0
      exact ⟨b2,o2,e2,hb2⟩
  have cL:Hid (∀ W',ErrT W'→Calls Tryz.prog 91 #[ev] W' fun e w'=>e = .returned fv∧Keep W' w'):=fun W' g=>by rw [hev,hfv];exact located_fn code W' g
  have hsz:=KW.out.size
  have fin:Hid (∀ w',AddX W w' d s q t m E k Z→∀ w2,Keep w' w2→Ending.returned fv = .returned (fltC code 0)∧AddX w w2 d s q t m E k Z):=by
    rintro w' ⟨x,e1,e2,e3,hs,hf,hp,hA',hB'⟩ w2 k2
    refine ⟨by rw [hfv],x,e1,e2,e3,hs.keep k2,FrS.after KW.out (hf.keep k2),by omega,fun h0=>?_,fun h0=>?_⟩
    · obtain ⟨b2,o2,e,hb2⟩:=hA' h0
      exact ⟨b2,o2,e,by omega⟩
    · obtain ⟨b2,o2,e,hb2⟩:=hB' h0
      exact ⟨b2,o2,e,by omega⟩
  rw [← hcode]
  obtain ⟨g,hgg⟩:∃ g,g = wrongOf d Z d:=⟨_,rfl⟩
  rw [← hgg] at cW hw
  replace hgg:=Lib.hid hgg
  replace hcode:=Lib.hid hcode
  replace hev:=Lib.hid hev
  replace hfv:=Lib.hid hfv
  replace Y:=Lib.hid Y
  replace nq:=Lib.hid nq
  replace nbm:=Lib.hid nbm
  replace hz:=Lib.hid hz
  clear h hA hW1 nilA hg hk
  go_enter Tryz.func58,Tryz.ntmps58
  go_wp2_with fail
  rw [← hW,← hb]
  replace hW:=Lib.hid hW
  replace hb:=Lib.hid hb
  go_region_held3 (fun w'=>w'.cell? ⟨b,1,none⟩ = some (.slice A d c)∧w'.cell? ⟨q,0,none⟩ = some (.int .i64 d))
    (first
      | ((refine (fun (KK:Keep W _)=>⟨KK.cell y1,KK.cell c0⟩) ?_;repeat (with_reducible first | exact Keep.refl W | apply Keep.drew | apply Keep.drewN | exact k6.out));done))
    (first | (go_at_call 90;refine (cW.out _ (by repeat (with_reducible first | exact Keep.refl W | apply Keep.drew | apply Keep.drewN))).mono ?_;rintro e w6 ⟨rfl,k6'⟩;have k6:Hid (Keep W w6):=Keep.trans (by repeat (with_reducible first | exact Keep.refl W | apply Keep.drew | apply Keep.drewN)) k6';replace k6':=Lib.hid k6'))
  have HH:Hid (∀ Wz,Keep W Wz→(Wz.cell? ⟨q,1,none⟩ = some (.pointer (some ⟨t,0,none⟩))∧Wz.cell? ⟨q,0,none⟩ = some (.int .i64 d)∧Wz.cell? ⟨b,0,none⟩ = some (.int .i64 k)∧Wz.cell? ⟨b,1,none⟩ = some (.slice A d c))):=fun Wz KK=>⟨KK.cell c1,KK.cell c0,KK.cell y0,KK.cell y1⟩
  have hbl:=cell_lt (k6.out.cell y0)
  clear y0 y1 c0 c1 cW
  go_wp2_with fail
  have HELD:∀ Wz,Keep W Wz→(Wz.cell? ⟨q,1,none⟩ = some (.pointer (some ⟨t,0,none⟩))∧Wz.cell? ⟨q,0,none⟩ = some (.int .i64 d)∧Wz.cell? ⟨b,0,none⟩ = some (.int .i64 k)∧Wz.cell? ⟨b,1,none⟩ = some (.slice A d c)):=fun Wz KK=>HH.out Wz KK
  refine wp_region_held_drew (S:=fun w'=>w'.cell? ⟨q,1,none⟩ = some (.pointer (some ⟨t,0,none⟩))∧w'.cell? ⟨q,0,none⟩ = some (.int .i64 d)∧w'.cell? ⟨b,0,none⟩ = some (.int .i64 k)∧w'.cell? ⟨b,1,none⟩ = some (.slice A d c)) (by kernel_rfl) ?_ (fun hHeld=>?_)
  · exact HELD _ (by repeat (with_reducible first | exact Keep.refl W | apply Keep.alloc | apply Keep.drew | apply Keep.drewN | (refine Keep.trans ?_ k6.out)))
  refine wpAnyH_take (i:=0) (v:=.pointer (some ⟨q,0,none⟩)) rfl (by kernel_rfl) (by kernel_rfl) (by kernel_rfl) (fun _ _ _ h=>h) (Or.inl ⟨by rfl,fun Wz hW=>by obtain ⟨p0,p1,p2,p3⟩:=hW;go_simp⟩) hHeld ?_
  simp only [Act.put,List.getElem_toArray,List.getElem_cons_zero,List.setIfInBounds_toArray,List.set_cons_zero,List.set_cons_succ]
  refine wpAnyH_take (i:=1) (v:=.pointer (some ⟨q,0,none⟩)) rfl (by kernel_rfl) (by kernel_rfl) (by kernel_rfl) (fun _ _ _ h=>h) (Or.inl ⟨by rfl,fun Wz hW=>by obtain ⟨p0,p1,p2,p3⟩:=hW;go_simp⟩) hHeld ?_
  simp only [Act.put,List.getElem_toArray,List.getElem_cons_succ,List.getElem_cons_zero,List.setIfInBounds_toArray,List.set_cons_zero,List.set_cons_succ]
  refine wpAnyH_take (i:=2) (v:=.pointer (some ⟨q,1,none⟩)) rfl (by kernel_rfl) (by kernel_rfl) (by kernel_rfl) (fun _ _ _ h=>h) (Or.inl ⟨by rfl,fun Wz hW=>by obtain ⟨p0,p1,p2,p3⟩:=hW;go_simp⟩) hHeld ?_
  simp only [Act.put,List.getElem_toArray,List.getElem_cons_succ,List.getElem_cons_zero,List.setIfInBounds_toArray,List.set_cons_zero,List.set_cons_succ]
  refine wpAnyH_take (i:=3) (v:=.pointer (some ⟨t,0,none⟩)) rfl (by kernel_rfl) (by kernel_rfl) (by kernel_rfl) (fun _ _ _ h=>h) (Or.inl ⟨by rfl,fun Wz hW=>by obtain ⟨p0,p1,p2,p3⟩:=hW;go_simp⟩) hHeld ?_
  simp only [Act.put,List.getElem_toArray,List.getElem_cons_succ,List.getElem_cons_zero,List.setIfInBounds_toArray,List.set_cons_zero,List.set_cons_succ]
  refine wpAnyH_take (i:=4) (v:=.pointer (some ⟨b,0,none⟩)) rfl (by kernel_rfl) (by kernel_rfl) (by kernel_rfl) (fun _ _ _ h=>h) (Or.inl ⟨by rfl,fun Wz hW=>by obtain ⟨p0,p1,p2,p3⟩:=hW;go_simp⟩) hHeld ?_
  simp only [Act.put,List.getElem_toArray,List.getElem_cons_succ,List.getElem_cons_zero,List.setIfInBounds_toArray,List.set_cons_zero,List.set_cons_succ]
  refine wpAnyH_take (i:=5) (v:=.int .i64 k) rfl (by kernel_rfl) (by kernel_rfl) (by kernel_rfl) (fun _ _ _ h=>h) (Or.inl ⟨by rfl,fun Wz hW=>by obtain ⟨p0,p1,p2,p3⟩:=hW;go_simp⟩) hHeld ?_
  simp only [Act.put,List.getElem_toArray,List.getElem_cons_succ,List.getElem_cons_zero,List.setIfInBounds_toArray,List.set_cons_zero,List.set_cons_succ]
  refine wpAnyH_take (i:=6) (v:=.agg #[.int .i64 k,.slice A d c]) rfl (by kernel_rfl) (by kernel_rfl) (by kernel_rfl) (fun _ _ _ h=>h) (Or.inl ⟨by rfl,fun Wz hW=>by obtain ⟨p0,p1,p2,p3⟩:=hW;go_simp⟩) hHeld ?_
  simp only [Act.put,List.getElem_toArray,List.getElem_cons_succ,List.getElem_cons_zero,List.setIfInBounds_toArray,List.set_cons_zero,List.set_cons_succ]
  refine wpAnyH_take (i:=8) (v:=.pointer (some ⟨q,0,none⟩)) rfl (by kernel_rfl) (by kernel_rfl) (by kernel_rfl) (fun _ _ _ h=>h) (Or.inl ⟨by rfl,fun Wz hW=>by obtain ⟨p0,p1,p2,p3⟩:=hW;go_simp⟩) hHeld ?_
  simp only [Act.put,List.getElem_toArray,List.getElem_cons_succ,List.getElem_cons_zero,List.setIfInBounds_toArray,List.set_cons_zero,List.set_cons_succ]
  refine wpAnyH_take (i:=9) (v:=.pointer (some ⟨q,0,none⟩)) rfl (by kernel_rfl) (by kernel_rfl) (by kernel_rfl) (fun _ _ _ h=>h) (Or.inl ⟨by rfl,fun Wz hW=>by obtain ⟨p0,p1,p2,p3⟩:=hW;go_simp⟩) hHeld ?_
  simp only [Act.put,List.getElem_toArray,List.getElem_cons_succ,List.getElem_cons_zero,List.setIfInBounds_toArray,List.set_cons_zero,List.set_cons_succ]
  refine wpAnyH_take (i:=10) (v:=.pointer (some ⟨q,0,none⟩)) rfl (by kernel_rfl) (by kernel_rfl) (by kernel_rfl) (fun _ _ _ h=>h) (Or.inl ⟨by rfl,fun Wz hW=>by obtain ⟨p0,p1,p2,p3⟩:=hW;go_simp⟩) hHeld ?_
  simp only [Act.put,List.getElem_toArray,List.getElem_cons_succ,List.getElem_cons_zero,List.setIfInBounds_toArray,List.set_cons_zero,List.set_cons_succ]
  refine wpAnyH_take (i:=11) (v:=.int .i64 d) rfl (by kernel_rfl) (by kernel_rfl) (by kernel_rfl) (fun _ _ _ h=>h) (Or.inl ⟨by rfl,fun Wz hW=>by obtain ⟨p0,p1,p2,p3⟩:=hW;go_simp⟩) hHeld ?_
  simp only [Act.put,List.getElem_toArray,List.getElem_cons_succ,List.getElem_cons_zero,List.setIfInBounds_toArray,List.set_cons_zero,List.set_cons_succ]
  refine wpAnyH_ready (rs:=[7]) (by kernel_rfl) (by simp) ?_
  refine AllReadyH.cons rfl (fun K hK=>?_) AllReadyH.nil
  simp only [List.getElem_toArray,List.getElem_cons_succ,List.getElem_cons_zero]
  rw [if_pos (by rfl)]
  go_simp
  refine (cC.out _ (by repeat (with_reducible first | exact Keep.refl W | apply Keep.alloc | apply Keep.drew | apply Keep.drewN | (refine Keep.trans ?_ k6.out)))).mono ?_
  rintro e w7 ⟨A7,c7,rfl,r7,k7⟩;replace r7:=Lib.hid r7;replace k7:=Lib.hid k7
  go_wp2_with fail
  refine hK.out _ _ ?_ (fun hHeld=>?_)
  · exact HELD _ k7.out
  clear hK K
  try simp only [Act.put,List.getElem_toArray,List.getElem_cons_succ,List.getElem_cons_zero,List.setIfInBounds_toArray,List.set_cons_zero,List.set_cons_succ]
  refine wpAnyH_ready (rs:=[12]) (by kernel_rfl) (by simp) ?_
  refine AllReadyH.cons rfl (fun K hK=>?_) AllReadyH.nil
  simp only [List.getElem_toArray,List.getElem_cons_succ,List.getElem_cons_zero]
  rw [if_pos (by rfl)]
  go_simp
  refine (cZ.out _ (by repeat (with_reducible first | exact Keep.refl W | apply Keep.alloc | apply Keep.drew | apply Keep.drewN | (refine Keep.trans ?_ k7.out) | (refine Keep.trans ?_ k6.out)))).mono ?_
  rintro e w8 ⟨g8,rfl,r8,k8,kk⟩;replace r8:=Lib.hid r8;have r7':Hid (Row W w8 A7 d c7 Z):=r7.out.keep (Keep.trans (by repeat (with_reducible first | exact Keep.refl w7 | apply Keep.drew | apply Keep.drewN)) kk);replace k8:=Lib.hid k8;replace kk:=Lib.hid kk
  go_wp2_with fail
  refine hK.out _ _ ?_ (fun hHeld=>?_)
  · exact HELD _ k8.out
  clear hK K
  try simp only [Act.put,List.getElem_toArray,List.getElem_cons_succ,List.getElem_cons_zero,List.setIfInBounds_toArray,List.set_cons_zero,List.set_cons_succ]
  refine wpAnyH_take (i:=13) (v:=.agg #[.int .i64 k,.slice A7 d c7,.slice (some ⟨g8,0,none⟩) d d]) rfl (by kernel_rfl) (by kernel_rfl) (by kernel_rfl) (fun _ _ _ h=>h) (Or.inl ⟨by rfl,fun Wz hW=>by obtain ⟨p0,p1,p2,p3⟩:=hW;go_simp⟩) hHeld ?_
  simp only [Act.put,List.getElem_toArray,List.getElem_cons_succ,List.getElem_cons_zero,List.setIfInBounds_toArray,List.set_cons_zero,List.set_cons_succ]
  refine wpAnyH_ready (rs:=[14]) (by kernel_rfl) (by simp) ?_
  refine AllReadyH.cons rfl (fun K hK=>?_) AllReadyH.nil
  simp only [List.getElem_toArray,List.getElem_cons_succ,List.getElem_cons_zero]
  rw [if_pos (by rfl)]
  go_simp
  refine hK.out _ _ ?_ (fun hHeld=>?_)
  · exact HELD _ (by repeat (with_reducible first | exact Keep.refl W | apply Keep.alloc | apply Keep.drew | apply Keep.drewN | (refine Keep.trans ?_ k8.out) | (refine Keep.trans ?_ k7.out) | (refine Keep.trans ?_ k6.out)))
  clear hK K
  try simp only [Act.put,List.getElem_toArray,List.getElem_cons_succ,List.getElem_cons_zero,List.setIfInBounds_toArray,List.set_cons_zero,List.set_cons_succ]
  refine wpAnyH_ready (rs:=[15]) (by kernel_rfl) (by simp) ?_
  refine AllReadyH.cons rfl (fun K hK=>?_) AllReadyH.nil
  simp only [List.getElem_toArray,List.getElem_cons_succ,List.getElem_cons_zero]
  rw [if_pos (by rfl)]
  go_simp
  refine (cT.out _ A7 c7 g8 w8.heap.size (by repeat (with_reducible first | exact Keep.refl W | apply Keep.alloc | apply Keep.drew | apply Keep.drewN | (refine Keep.trans ?_ k8.out) | (refine Keep.trans ?_ k7.out) | (refine Keep.trans ?_ k6.out))) (r7'.out.keep (by repeat (with_reducible first | exact Keep.refl w8 | apply Keep.alloc | apply Keep.drew | apply Keep.drewN))) (r8.out.keep (by repeat (with_reducible first | exact Keep.refl w8 | apply Keep.alloc | apply Keep.drew | apply Keep.drewN))) (heap_alloc_new _ _) k8.out.size).mono ?_
  rintro e w9 ⟨rfl,f9,g9,X9⟩;replace X9:=Lib.hid X9;replace g9:=Lib.hid g9;replace f9:=Lib.hid f9
  go_wp2_with fail
  refine hK.out _ _ ?_ (fun hHeld=>?_)
  · exact ⟨f9.out.cell hHeld.1 nq.out,f9.out.cell hHeld.2.1 nq.out,f9.out.cell hHeld.2.2.1 nbm.out,f9.out.cell hHeld.2.2.2 nbm.out⟩
  clear hK K
  try simp only [Act.put,List.getElem_toArray,List.getElem_cons_succ,List.getElem_cons_zero,List.setIfInBounds_toArray,List.set_cons_zero,List.set_cons_succ]
  refine wpAnyH_ready (rs:=[16]) (by kernel_rfl) (by simp) ?_
  refine AllReadyH.cons rfl (fun K hK=>?_) AllReadyH.nil
  simp only [List.getElem_toArray,List.getElem_cons_succ,List.getElem_cons_zero]
  rw [if_pos (by rfl)]
  go_simp
  refine (cL.out _ g9.out).mono ?_
  rintro e w10 ⟨rfl,k10'⟩;have k10:Hid (Keep w9 w10):=Keep.trans (by repeat (with_reducible first | exact Keep.refl w9 | apply Keep.drew | apply Keep.drewN)) k10';replace k10':=Lib.hid k10'
  go_wp2_with fail
  refine hK.out _ _ ?_ (fun hHeld=>?_)
  · exact ⟨k10.out.cell hHeld.1,k10.out.cell hHeld.2.1,k10.out.cell hHeld.2.2.1,k10.out.cell hHeld.2.2.2⟩
  clear hK K
  try simp only [Act.put,List.getElem_toArray,List.getElem_cons_succ,List.getElem_cons_zero,List.setIfInBounds_toArray,List.set_cons_zero,List.set_cons_succ]
  refine wpAnyH_take (i:=17) (v:=fv) rfl (by kernel_rfl) (by kernel_rfl) (by kernel_rfl) (fun _ _ _ h=>h) (Or.inl ⟨by rfl,fun Wz hW=>by obtain ⟨p0,p1,p2,p3⟩:=hW;go_simp⟩) hHeld ?_
  simp only [Act.put,List.getElem_toArray,List.getElem_cons_succ,List.getElem_cons_zero,List.setIfInBounds_toArray,List.set_cons_zero,List.set_cons_succ]
  refine wpAnyH_done (by kernel_rfl) ?_ _
  go_wp2
  go_ret
  refine fin.out w9 X9.out _ ?_
  repeat (with_reducible first | exact k10.out | apply Keep.drew | apply Keep.drewN)
end
end Go.Proofs.YtnclkefddkgojaaGreatDoor.T12

namespace Go.Proofs.YtnclkefddkgojaaGreatDoor.T12
open Go.RowKit Go.Sort Go.Lib V12
section
variable {w w':World} {d:Nat} {s:Int} {q t m:Nat} {E:List EnV}
theorem NodeV.ext' {a b:NodeV} (h1:a.k = b.k) (h2:a.C = b.C) (h3:a.U = b.U):a = b:=by cases a;cases b;cases h1;cases h2;cases h3;rfl
theorem nadd_fn (h:SC w d s q t m E) (hg:ErrT w) (k:Int) (A:Option Addr) (n c:Nat) (Z:Nat→Int) (hA:Rd w A n Z) (nilA:A = none→n = 0∧c = 0) (hk:I64 k) (hd:d≤64) :
    Calls Tryz.prog 58 #[.pointer (some ⟨q,0,none⟩),.agg #[.int .i64 k,.slice A n c]] w fun e w'=>e = .returned (fltC (addC (E.map EnV.nv) d s k n Z) (addI d n Z))∧After w w' d s q t m E (addL (E.map EnV.nv) d s k n Z):=by
  unfold addL addC addI
  rw [nv_keys,List.length_map]
  by_cases hw:0≤wrongOf n Z d
  · simp only [if_pos hw]
    rw [if_neg (by decide)]
    refine (nadd_wrong h k A n c Z hA hw).mono fun e w' ⟨he,hk⟩=>⟨?_,After.same h hk⟩
    rw [he]
    unfold fltC
    rw [if_neg (by decide)]
  · simp only [if_neg hw]
    obtain ⟨rfl,hz⟩:=wrong_no hw
    refine (nadd_ok h hg k A c Z hA nilA hw hk hz hd).mono fun e w' ⟨he,x,e1,e2,e3,hs,hf,hp,ha,hb⟩=>⟨he,?_⟩
    have ev:x.nv = ⟨k,Z,fun _=>0⟩:=NodeV.ext' e1 e2 e3
    have hf':FrS (DE m E) w w':=⟨hf.fr.less fun _ e=>Or.inl e,hf.int⟩
    by_cases h1:k ∈ ekeys E
    · simp only [if_pos h1] at hs ⊢
      rw [if_neg (by decide)]
      exact ⟨E,hs,rfl,hf',fun _ h=>Or.inl h,fun _ h=>Or.inl h⟩
    · simp only [if_neg h1] at hs ⊢
      by_cases h2:s≤(E.length:Int)
      · simp only [if_pos h2] at hs ⊢
        rw [if_neg (by decide)]
        exact ⟨E,hs,rfl,hf',fun _ h=>Or.inl h,fun _ h=>Or.inl h⟩
      · simp only [if_neg h2] at hs ⊢
        rw [if_pos trivial]
        refine ⟨_,hs,?_,hf',fun i hi=>?_,fun i hi=>?_⟩
        · rw [G.map_ins (ka:=EnV.k) (kb:=NodeV.k) nv_k,ev]
        · rcases hi with rfl | ⟨y,hy,rfl⟩
          · exact Or.inl (Or.inl rfl)
          · rcases G.ins_mem.1 hy with rfl | hy
            · exact Or.inr hp
            · exact Or.inl (Or.inr ⟨y,hy,rfl⟩)
        · rcases hi with rfl | rfl | rfl | ⟨y,hy,h3⟩
          · exact Or.inl (Or.inl rfl)
          · exact Or.inl (Or.inr (Or.inl rfl))
          · exact Or.inl (Or.inr (Or.inr (Or.inl rfl)))
          · rcases G.ins_mem.1 hy with rfl | hy
            · rcases h3 with rfl | ⟨hd,⟨o,h3⟩ | ⟨o,h3⟩⟩
              · exact Or.inr hp
              · obtain ⟨b,o2,e,hb⟩:=ha hd
                rw [e] at h3
                simp only [Option.some.injEq,Addr.mk.injEq,and_true] at h3
                exact Or.inr (by omega)
              · obtain ⟨b,o2,e,hb⟩:=hb hd
                rw [e] at h3
                simp only [Option.some.injEq,Addr.mk.injEq,and_true] at h3
                exact Or.inr (by omega)
            · exact Or.inl (Or.inr (Or.inr (Or.inr ⟨y,hy,h3⟩)))
theorem trem_in (h:SC w d s q t m E) {id:Int} (hk:id ∈ ekeys E):Calls Tryz.prog 83 #[.pointer (some ⟨t,0,none⟩),.int .i64 id] w fun e w'=>e = .returned (.tuple #[.pointer (some ⟨(eget E id).p,0,none⟩),.bool true])∧SC w' d s q t m (G.wo EnV.k E id)∧Fr (· = m) w w':=by
  obtain ⟨l,a,b⟩:=h.ex
  refine (tnrem_some a id _ (h.look_in b hk)).mono fun e w' ⟨he,ht,hw⟩=>⟨he,h.put ht ?_ hw (G.wo_sorted h.srt) fun x hx=>h.is x (G.wo_mem.1 hx).1,hw⟩
  have e2:(G.wo EnV.k E id).map EnV.kv = (E.map EnV.kv).filter fun x=>decide (x.1≠id):=by
    unfold G.wo
    rw [List.filter_map]
    rfl
  rw [e2]
  exact b.filter _
set_option maxRecDepth 100000 in
set_option maxHeartbeats 4000000 in
theorem ndrop_out (h:SC w d s q t m E) {id:Int} (hk:id ∉ ekeys E):Calls Tryz.prog 52 #[.pointer (some ⟨q,0,none⟩),.int .i64 id] w fun e w'=>e = .returned (.tuple #[.agg #[.int .i64 0,.slice none 0 0],flt 5 0])∧Keep w w':=by
  obtain ⟨W,hW⟩:∃ W,W = w.alloc (.cells #[.int .i64 0,.slice none 0 0] 50):=⟨_,rfl⟩
  have KW:Hid (Keep w W):=by rw [hW];exact Keep.one _ _
  obtain ⟨b,hb⟩:∃ b,b = w.heap.size:=⟨_,rfl⟩
  have Y:W.heap[b]? = some (.cells #[.int .i64 0,.slice none 0 0] 50 (0,0)):=by rw [hW,hb];exact heap_alloc_new _ _
  have hF:=Lib.hid (find_out (h.keep KW.out) hk)
  have hn:=Lib.hid (fun W=>new_fn 5 0 W)
  obtain ⟨y0,y1,yf⟩:=cel2 Y
  have B5:Hid (((W.setCell ⟨b,0,none⟩ (.int .i64 0)).setCell ⟨b,1,none⟩ (.slice none 0 0)).heap[b]? = some (.cells #[.int .i64 0,.slice none 0 0] 50 (0,0))):=two_set Y
  have K5:Hid (Keep w ((W.setCell ⟨b,0,none⟩ (.int .i64 0)).setCell ⟨b,1,none⟩ (.slice none 0 0))):=two_keep KW.out (by omega)
  replace Y:=Lib.hid Y
  unfold flt
  obtain ⟨fv,hfv⟩:∃ fv,fv = (Base.fault 5 0).val:=⟨_,rfl⟩
  rw [← hfv] at hn ⊢
  replace hfv:=Lib.hid hfv
  clear h hk
  go_enter Tryz.func52,Tryz.ntmps52
  go_wp2_with fail
  rw [← hW,← hb]
  replace hW:=Lib.hid hW
  replace hb:=Lib.hid hb
  refine hF.out.mono ?_
  rintro e w1 ⟨rfl,rfl⟩
  go_wp2_with fail
  refine (hn.out _).mono ?_
  rintro e w1 ⟨rfl,rfl⟩
  go_wp2
  obtain ⟨z0,z1,_⟩:=cel2 B5.out
  refine bodyPost_ret (v:=.tuple #[.agg #[.int .i64 0,.slice none 0 0],fv]) (by simp [results,Tryz.results52,go_sem,z0,z1]) rfl ⟨rfl,K5.out⟩
set_option maxRecDepth 100000 in
set_option maxHeartbeats 4000000 in
theorem ndrop_in (h:SC w d s q t m E) {id:Int} (hk:id ∈ ekeys E):Calls Tryz.prog 52 #[.pointer (some ⟨q,0,none⟩),.int .i64 id] w fun e w'=>e = .returned (.tuple #[.agg #[.int .i64 id,.slice (eget E id).A d (eget E id).c],.nilIface])∧Rd w' (eget E id).A d (eget E id).C∧After w w' d s q t m E (dropL (E.map EnV.nv) id):=by
  obtain ⟨W,hW⟩:∃ W,W = w.alloc (.cells #[.int .i64 0,.slice none 0 0] 50):=⟨_,rfl⟩
  have KW:Hid (Keep w W):=by rw [hW];exact Keep.one _ _
  obtain ⟨b,hb⟩:∃ b,b = w.heap.size:=⟨_,rfl⟩
  have Y:Hid (W.heap[b]? = some (.cells #[.int .i64 0,.slice none 0 0] 50 (0,0))):=by rw [hW,hb];exact heap_alloc_new _ _
  have h1:=h.keep KW.out
  have hF:=Lib.hid (find_in h1 hk)
  have hR:=Lib.hid (trem_in h1 hk)
  have c1:=h1.c1
  have hx:=eget_in hk
  have hX:=h1.is _ hx.1
  have hxm:¬ (eget E id).p = m:=h1.xm hx.1
  have hbm:¬ b = m:=by
    obtain ⟨y0,_,_⟩:=cel2 Y.out
    exact h1.off (a:=⟨b,0,none⟩) y0
  have blk:Hid (∀ w1,Fr (· = m) W w1→w1.heap[(eget E id).p]? = some (.cells #[.int .i64 id,.slice (eget E id).A d (eget E id).c,.slice (eget E id).B d (eget E id).e] 137 (0,0))):=fun w1 f=>by
    have:=hX.blk
    rw [hx.2] at this
    exact (f.block _ (lt_blk this) hxm).trans this
  have blkY:Hid (∀ w1,Fr (· = m) W w1→w1.heap[b]? = some (.cells #[.int .i64 0,.slice none 0 0] 50 (0,0))):=fun w1 f=>(f.block _ (lt_blk Y.out) hbm).trans Y.out
  have hbw:w.heap.size≤b:=by omega
  have fin:Hid (∀ w1,SC w1 d s q t m (G.wo EnV.k E id)→Fr (· = m) W w1→Rd ((w1.setCell ⟨b,0,none⟩ (.int .i64 id)).setCell ⟨b,1,none⟩ (.slice (eget E id).A d (eget E id).c)) (eget E id).A d (eget E id).C∧After w ((w1.setCell ⟨b,0,none⟩ (.int .i64 id)).setCell ⟨b,1,none⟩ (.slice (eget E id).A d (eget E id).c)) d s q t m E (dropL (E.map EnV.nv) id)):=fun w1 hs hf=>by
    have kb:Keep w w1→True:=fun _=>trivial
    have f2:Fr (fun k=>k = b) w1 ((w1.setCell ⟨b,0,none⟩ (.int .i64 id)).setCell ⟨b,1,none⟩ (.slice (eget E id).A d (eget E id).c)):=two_fr
    have low:∀ k,FE d q t m E k→k < w.heap.size:=h.lt
    have nb:∀ k,FE d q t m E k→¬ k = b:=fun k hk2 e=>by have:=low k hk2;omega
    have sub:∀ k,FE d q t m (G.wo EnV.k E id) k→FE d q t m E k:=fun k hk2=>by
      rcases hk2 with rfl | rfl | rfl | ⟨y,hy,h3⟩
      · exact Or.inl rfl
      · exact Or.inr (Or.inl rfl)
      · exact Or.inr (Or.inr (Or.inl rfl))
      · exact Or.inr (Or.inr (Or.inr ⟨y,(G.wo_mem.1 hy).1,h3⟩))
    have int:∀ b2 o k i,w.cell? ⟨b2,o,none⟩ = some (.int k i)→((w1.setCell ⟨b,0,none⟩ (.int .i64 id)).setCell ⟨b,1,none⟩ (.slice (eget E id).A d (eget E id).c)).cell? ⟨b2,o,none⟩ = some (.int k i):=fun b2 o k i hc=>by
      have hlt:b2 < w.heap.size:=cell_lt hc
      rw [two_other (show b2≠b by omega)]
      exact (fr_int h1 hf (D:=fun k=>k = m) fun _ e=>e).int b2 o k i (KW.out.cell hc)
    have fs:FrS (DE m E) w ((w1.setCell ⟨b,0,none⟩ (.int .i64 id)).setCell ⟨b,1,none⟩ (.slice (eget E id).A d (eget E id).c)):=by
      refine ⟨⟨(f2.os.trans hf.os).trans KW.out.os,(f2.tape.trans hf.tape).trans KW.out.tape,(f2.output.trans hf.output).trans KW.out.output,Nat.le_trans KW.out.size (Nat.le_trans hf.size f2.size),fun k hk2 hn=>?_⟩,int⟩
      rw [two_block (show k≠b by omega)]
      exact (hf.block k (Nat.lt_of_lt_of_le hk2 KW.out.size) (fun e=>hn (Or.inl e))).trans (Below.block KW.out k hk2)
    refine ⟨fs.rd (h.is _ hx.1).rc,G.wo EnV.k E id,hs.frame fun k hk2=>two_block (nb k (sub k hk2)),?_,fs,fun k hk2=>?_,fun k hk2=>Or.inl (sub k hk2)⟩
    · exact G.map_wo (ka:=EnV.k) (kb:=NodeV.k) nv_k E id
    · rcases hk2 with rfl | ⟨y,hy,rfl⟩
      · exact Or.inl (Or.inl rfl)
      · exact Or.inl (Or.inr ⟨y,(G.wo_mem.1 hy).1,rfl⟩)
  obtain ⟨x,hxx⟩:∃ x,x = eget E id:=⟨_,rfl⟩
  rw [← hxx] at hF hR blk fin ⊢
  obtain ⟨p,hp⟩:∃ p,p = x.p:=⟨_,rfl⟩
  rw [← hp] at hF hR blk
  obtain ⟨M,hM⟩:∃ M,M = dropL (E.map EnV.nv) id:=⟨_,rfl⟩
  rw [← hM] at fin ⊢
  replace hM:=Lib.hid hM
  replace hp:=Lib.hid hp
  replace hxx:=Lib.hid hxx
  replace hx:=Lib.hid hx
  replace hX:=Lib.hid hX
  replace hxm:=Lib.hid hxm
  replace hbm:=Lib.hid hbm
  replace hbw:=Lib.hid hbw
  clear h h1 hk
  go_enter Tryz.func52,Tryz.ntmps52
  go_wp2_with fail
  rw [← hW,← hb]
  replace hW:=Lib.hid hW
  replace hb:=Lib.hid hb
  refine hF.out.mono ?_
  rintro e w1 ⟨rfl,rfl⟩
  go_wp2_with fail
  refine hR.out.mono ?_
  rintro e w1 ⟨rfl,hs,hf⟩
  obtain ⟨d0,d1,d2,_⟩:=tri_cel (blk.out w1 hf)
  obtain ⟨y0,y1,yf⟩:=cel2 (blkY.out w1 hf)
  have B5:Hid (((w1.setCell ⟨b,0,none⟩ (.int .i64 id)).setCell ⟨b,1,none⟩ (.slice x.A d x.c)).heap[b]? = some (.cells #[.int .i64 id,.slice x.A d x.c] 50 (0,0))):=two_set (blkY.out w1 hf)
  have FIN:=Lib.hid (fin.out w1 hs hf)
  replace hs:=Lib.hid hs
  replace hf:=Lib.hid hf
  clear c1
  go_wp2
  obtain ⟨z0,z1,_⟩:=cel2 B5.out
  refine bodyPost_ret (v:=.tuple #[.agg #[.int .i64 id,.slice x.A d x.c],.nilIface]) (by simp [results,Tryz.results52,go_sem,z0,z1]) rfl ⟨rfl,FIN.out⟩
end
end Go.Proofs.YtnclkefddkgojaaGreatDoor.T12

