/-
  The store: Apply where there is no such pod, or the event does not apply; the nil store's. No condition.
  The store: Submit where the pod is not added. Condition: errors.errorType holds its own.
  The store: Apply. Conditions: at most 1000 pods, each with at most 1000 amounts.
-/
import Derived.Test.YtnclkefddkgojaaGreatDoorB36
namespace Go.Proofs.YtnclkefddkgojaaGreatDoor.T13
open Go.RowKit Go.Sort Go.Lib V12
section
variable {w w':World} {b0:Nat} {s:Int} {q t m:Nat} {A:Option Addr} {c n:Nat} {P:Nat→PodV}
set_option maxRecDepth 100000 in
set_option maxHeartbeats 4000000 in
theorem pdapply_out (h:ST w b0 s q t m A c n P) {id:Int} (hk:id ∉ keys (lst P n)) (ev nd dl:Int):Calls Tryz.prog 55 #[.pointer (some ⟨q,0,none⟩),.int .i64 id,.int .i64 ev,.int .i64 nd,.int .i64 dl] w fun e w'=>e = .returned (.tuple #[zpod.val,flt 5 0])∧Keep w w':=by
  obtain ⟨W,hW⟩:∃ W,W = w.alloc (.cells (podB zpod) 35):=⟨_,rfl⟩
  have KW:Hid (Keep w W):=by rw [hW];exact Keep.one _ _
  obtain ⟨b,hb⟩:∃ b,b = w.heap.size:=⟨_,rfl⟩
  have Y:W.heap[b]? = some (.cells (podB zpod) 35 (0,0)):=by rw [hW,hb];exact heap_alloc_new _ _
  have hF:=Lib.hid (pdindex_out (h.keep KW.out) hk)
  have hE:=Lib.hid (fun W=>new_fn 5 0 W)
  have B5:Hid ((put9 W b zpod).heap[b]? = some (.cells (podB zpod) 35 (0,0))):=put9_heap _ zpod Y
  have K5:Hid (Keep w (put9 W b zpod)):=put9_keep _ KW.out (by omega)
  obtain ⟨d0,d1,d2,d3,d4,d5,d6,d7,d8,g0⟩:=blk9 Y
  unfold zpod at d0 d1 d2 d3 d4 d5 d6 d7 d8
  unfold podB zpod at hW
  unfold PodV.val zpod flt
  unfold Base.val at *
  replace Y:=Lib.hid Y
  clear h hk
  go_enter Tryz.func55,Tryz.ntmps55
  go_wp2_with fail
  rw [← hW,← hb]
  replace hW:=Lib.hid hW
  replace hb:=Lib.hid hb
  refine hF.out.mono ?_
  rintro e w1 ⟨rfl,rfl⟩
  go_wp2_with fail
  refine (hE.out _).mono ?_
  rintro e w1 ⟨rfl,rfl⟩
  go_wp2
  obtain ⟨e0,e1,e2,e3,e4,e5,e6,e7,e8,_⟩:=blk9 B5.out
  unfold put9 zpod at *
  refine bodyPost_ret (v:=.tuple #[.agg #[.int .i64 0,.int .i64 0,.bool false,.int .i64 0,.slice none 0 0,.int .i64 0,.int .i64 0,.int .i64 0,.int .i64 0],.iface 145 (.agg #[.int .i64 5,.int .i64 0])]) (by simp [results,Tryz.results55,go_sem,e0,e1,e2,e3,e4,e5,e6,e7,e8]) rfl ⟨rfl,K5.out⟩
set_option maxRecDepth 100000 in
set_option maxHeartbeats 4000000 in
theorem pdapply_bad (h:ST w b0 s q t m A c n P) {j:Nat} (hj:j < n) (ev nd dl:Int) (hx:nx (P j).h ev = 0):Calls Tryz.prog 55 #[.pointer (some ⟨q,0,none⟩),.int .i64 (P j).k,.int .i64 ev,.int .i64 nd,.int .i64 dl] w fun e w'=>e = .returned (.tuple #[zpod.val,flt 8 0])∧Keep w w':=by
  obtain ⟨W,hW⟩:∃ W,W = w.alloc (.cells (podB zpod) 35):=⟨_,rfl⟩
  have KW:Hid (Keep w W):=by rw [hW];exact Keep.one _ _
  obtain ⟨b,hb⟩:∃ b,b = w.heap.size:=⟨_,rfl⟩
  have Y:Hid (W.heap[b]? = some (.cells (podB zpod) 35 (0,0))):=by show _ = _;rw [hW,hb];exact heap_alloc_new _ _
  have h1:=h.keep KW.out
  have hF:=Lib.hid (pdindex_in h1 hj)
  have hN:=Lib.hid (fun W=>pdnext_fn (P j).h ev W)
  have hE:=Lib.hid (fun W=>new_fn 8 0 W)
  have c0:=h1.c0
  obtain ⟨g,hA,X,_,hown⟩:=h1.at hj
  subst hA
  have q1:=pods_at g 0 n c j hj
  obtain ⟨x,hxx⟩:∃ x,x = P j:=⟨_,rfl⟩
  rw [← hxx] at hF hN X hx ⊢
  have x6:=X.e6
  rw [Nat.zero_add] at x6 q1
  have hd:decide (nx x.h ev≠0) = false:=decide_eq_false (not_not_intro hx)
  rw [hd,hx] at hN
  have hbw:Hid (w.heap.size≤b):=by show _≤_;omega
  replace hxx:=Lib.hid hxx
  unfold podB zpod at hW
  unfold PodV.val zpod flt
  unfold Base.val at *
  clear h h1 hx hd X
  go_enter Tryz.func55,Tryz.ntmps55
  go_wp2_with fail
  rw [← hW,← hb]
  replace hW:=Lib.hid hW
  replace hb:=Lib.hid hb
  refine hF.out.mono ?_
  rintro e w1 ⟨rfl,rfl⟩
  go_wp2_with fail
  refine (hN.out _).mono ?_
  rintro e w1 ⟨rfl,k1⟩
  have Y1:=k1.block Y.out
  have B5:Hid ((put9 w1 b zpod).heap[b]? = some (.cells (podB zpod) 35 (0,0))):=put9_heap _ zpod Y1
  have K5:Hid (Keep w (put9 w1 b zpod)):=put9_keep _ (KW.out.trans k1) hbw.out
  obtain ⟨d0,d1,d2,d3,d4,d5,d6,d7,d8,g0⟩:=blk9 Y1
  unfold zpod at d0 d1 d2 d3 d4 d5 d6 d7 d8
  clear x6 c0 q1 k1 Y1
  go_wp2_with fail
  refine (hE.out _).mono ?_
  rintro e w2 ⟨rfl,rfl⟩
  go_wp2
  obtain ⟨e0,e1,e2,e3,e4,e5,e6,e7,e8,_⟩:=blk9 B5.out
  unfold put9 zpod at *
  refine bodyPost_ret (v:=.tuple #[.agg #[.int .i64 0,.int .i64 0,.bool false,.int .i64 0,.slice none 0 0,.int .i64 0,.int .i64 0,.int .i64 0,.int .i64 0],.iface 145 (.agg #[.int .i64 8,.int .i64 0])]) (by simp [results,Tryz.results55,go_sem,e0,e1,e2,e3,e4,e5,e6,e7,e8]) rfl ⟨rfl,K5.out⟩
end
set_option maxRecDepth 100000 in
set_option maxHeartbeats 4000000 in
theorem pdsubmit_nil (x:PodV) (w:World):Calls Tryz.prog 67 #[.pointer none,x.val] w fun e w'=>e = .returned (.tuple #[zpod.val,flt 5 0])∧Keep w w':=by
  obtain ⟨W0,hW0⟩:∃ W0,W0 = w.alloc (.cells (podB x) 35):=⟨_,rfl⟩
  obtain ⟨W,hW⟩:∃ W,W = W0.alloc (.cells (podB zpod) 35):=⟨_,rfl⟩
  have KW:Hid (Keep w W):=by rw [hW,hW0];exact (Keep.one _ _).alloc _
  obtain ⟨b,hb⟩:∃ b,b = w.heap.size + 1:=⟨_,rfl⟩
  have hb0:W0.heap.size = b:=by rw [hW0,World.size_alloc,hb]
  have Y:W.heap[b]? = some (.cells (podB zpod) 35 (0,0)):=by rw [hW,← hb0];exact heap_alloc_new _ _
  have hE:=Lib.hid (fun W=>new_fn 5 0 W)
  have B5:Hid ((put9 W b zpod).heap[b]? = some (.cells (podB zpod) 35 (0,0))):=put9_heap _ zpod Y
  have K5:Hid (Keep w (put9 W b zpod)):=put9_keep _ KW.out (by omega)
  obtain ⟨d0,d1,d2,d3,d4,d5,d6,d7,d8,g0⟩:=blk9 Y
  unfold zpod at d0 d1 d2 d3 d4 d5 d6 d7 d8
  unfold podB at hW hW0
  unfold zpod at hW
  unfold PodV.val zpod flt
  unfold Base.val at *
  replace Y:=Lib.hid Y
  go_enter Tryz.func67,Tryz.ntmps67
  go_wp2_with fail
  rw [← hW0,← hW,← hb]
  replace hW:=Lib.hid hW
  replace hW0:=Lib.hid hW0
  replace hb:=Lib.hid hb
  replace hb0:=Lib.hid hb0
  refine (hE.out _).mono ?_
  rintro e w2 ⟨rfl,rfl⟩
  go_wp2
  obtain ⟨e0,e1,e2,e3,e4,e5,e6,e7,e8,_⟩:=blk9 B5.out
  unfold put9 zpod at *
  refine bodyPost_ret (v:=.tuple #[.agg #[.int .i64 0,.int .i64 0,.bool false,.int .i64 0,.slice none 0 0,.int .i64 0,.int .i64 0,.int .i64 0,.int .i64 0],.iface 145 (.agg #[.int .i64 5,.int .i64 0])]) (by simp [results,Tryz.results67,go_sem,e0,e1,e2,e3,e4,e5,e6,e7,e8]) rfl ⟨rfl,K5.out⟩
end Go.Proofs.YtnclkefddkgojaaGreatDoor.T13

namespace Go.Proofs.YtnclkefddkgojaaGreatDoor.T13
open Go.RowKit Go.Sort Go.Lib V12
section
variable {w w':World} {b0:Nat} {s:Int} {q t m:Nat} {A:Option Addr} {c n:Nat} {P:Nat→PodV}
def AddNo (w:World) (t:Nat) (id k cc:Int):Prop:=∀ W,Keep w W→Calls Tryz.prog 99 #[.pointer (some ⟨t,0,none⟩),.int .i64 id,.int .i64 k] W fun e w'=>e = .returned (err cc)∧Keep W w'
set_option maxRecDepth 100000 in
set_option maxHeartbeats 8000000 in
theorem pdsubmit_no (h:ST w b0 s q t m A c n P) (hg:ErrT w) (x:PodV) (cc:Int) (hA:AddNo w t x.k n cc):Calls Tryz.prog 67 #[.pointer (some ⟨q,0,none⟩),x.val] w fun e w'=>e = .returned (.tuple #[zpod.val,flt cc 0])∧Keep w w':=by
  have mixed:Tryz.prog.follows .mixedOrders = true:=by kernel_rfl
  obtain ⟨W0,hW0⟩:∃ W0,W0 = w.alloc (.cells (podB x) 35):=⟨_,rfl⟩
  obtain ⟨W,hW⟩:∃ W,W = W0.alloc (.cells (podB zpod) 35):=⟨_,rfl⟩
  have KW:Hid (Keep w W):=by rw [hW,hW0];exact (Keep.one _ _).alloc _
  obtain ⟨bx,hbx⟩:∃ bx,bx = w.heap.size:=⟨_,rfl⟩
  obtain ⟨b,hb⟩:∃ b,b = w.heap.size + 1:=⟨_,rfl⟩
  have hb0:W0.heap.size = b:=by rw [hW0,World.size_alloc,hb]
  have Y:Hid (W.heap[b]? = some (.cells (podB zpod) 35 (0,0))):=by show _ = _;rw [hW,← hb0];exact heap_alloc_new _ _
  have YX:W.heap[bx]? = some (.cells (podB x) 35 (0,0)):=by rw [hW,hW0,hbx];exact (Keep.one _ _).block (heap_alloc_new _ _)
  have hE:=Lib.hid (fun W=>new_fn cc 0 W)
  have x0:=(blk9 YX).e0
  have h1:=h.keep KW.out
  have c0:=h1.c0
  have c1:=h1.c1
  have GW:Hid (∀ W',Keep W W'→ErrT W'):=fun W' k=>hg.keep (KW.out.trans k)
  have cA:Hid (∀ W',Keep W W'→Calls Tryz.prog 99 #[.pointer (some ⟨t,0,none⟩),.int .i64 x.k,.int .i64 n] W' fun e w'=>e = .returned (err cc)∧Keep W' w'):=fun W' k=>hA W' (KW.out.trans k)
  have cC:Hid (∀ W',Keep W W'→Calls Tryz.prog 56 #[err cc] W' fun e w'=>e = .returned (.tuple #[.int .i64 cc,.bool true])∧Keep W' w'):=fun W' k=>code_yes cc [] (.code cc) _ W' (.base _) (Or.inl rfl) (GW.out W' k)
  have hbw:Hid (w.heap.size≤b):=by show _≤_;omega
  unfold podB at hW hW0
  unfold zpod at hW
  have c0e:=c0
  rw [hW,hW0] at c0e
  unfold PodV.val zpod flt
  unfold Base.val at *
  unfold err at cA cC
  clear h h1 hg YX hA
  go_enter Tryz.func67,Tryz.ntmps67
  go_wp2_with fail
  clear c0e
  rw [← hW0,← hW,← hb]
  try rw [← hbx]
  replace hW:=Lib.hid hW
  replace hW0:=Lib.hid hW0
  replace hb:=Lib.hid hb
  replace hbx:=Lib.hid hbx
  replace hb0:=Lib.hid hb0
  go_region_held3 (fun w'=>w'.cell? ⟨q,1,none⟩ = some (.pointer (some ⟨t,0,none⟩))∧w'.cell? ⟨bx,0,none⟩ = some (.int .i64 x.k))
    (first
      | ((refine (fun (KK:Keep W _)=>⟨KK.cell c1,KK.cell x0⟩) ?_;repeat (with_reducible first | exact Keep.refl W | apply Keep.drew | apply Keep.drewN | exact k6.out | exact k7.out));done))
    (first
      | (go_at_call 99;refine (cA.out _ (by repeat (with_reducible first | exact Keep.refl W | apply Keep.drew | apply Keep.drewN))).mono ?_;rintro e w6 ⟨rfl,k6⟩;replace k6:=Lib.hid ((by repeat (with_reducible first | exact Keep.refl W | apply Keep.drew | apply Keep.drewN):Keep W _).trans k6))
      | (go_at_call 56;refine (cC.out _ (by repeat (with_reducible first | exact Keep.refl W | apply Keep.drew | apply Keep.drewN | exact k6.out))).mono ?_;rintro e w7 ⟨rfl,k7⟩;replace k7:=Lib.hid ((by repeat (with_reducible first | exact Keep.refl W | apply Keep.drew | apply Keep.drewN | exact k6.out):Keep W _).trans k7)))
  all_goals
    have Y7:=k7.out.block Y.out
    have B5:Hid ((put9 w7 b zpod).heap[b]? = some (.cells (podB zpod) 35 (0,0))):=put9_heap _ zpod Y7
    have K5:Hid (Keep w (put9 w7 b zpod)):=put9_keep _ (KW.out.trans k7.out) hbw.out
    obtain ⟨d0,d1,d2,d3,d4,d5,d6,d7,d8,g0⟩:=blk9 Y7
    unfold zpod at d0 d1 d2 d3 d4 d5 d6 d7 d8
    clear c0 c1 x0 Y7 Y k6 k7 cA cC
    go_wp2_with fail
    refine (hE.out _).mono ?_
    rintro e w8 ⟨rfl,rfl⟩
    go_wp2
    obtain ⟨e0,e1,e2,e3,e4,e5,e6,e7,e8,_⟩:=blk9 B5.out
    unfold put9 zpod at *
    refine bodyPost_ret (v:=.tuple #[.agg #[.int .i64 0,.int .i64 0,.bool false,.int .i64 0,.slice none 0 0,.int .i64 0,.int .i64 0,.int .i64 0,.int .i64 0],.iface 145 (.agg #[.int .i64 cc,.int .i64 0])]) (by simp [results,Tryz.results67,go_sem,e0,e1,e2,e3,e4,e5,e6,e7,e8]) rfl ⟨rfl,K5.out⟩
theorem addno_dup (h:ST w b0 s q t m A c n P) {id:Int} (hk:id ∈ keys (lst P n)) (k:Int):AddNo w t id k 6:=fun W kW=>by
  obtain ⟨j,hj,e⟩:=key_at hk
  have h1:=h.keep kW
  refine (tbadd_dup h1.tb id k j (by rw [← e];exact h1.look_in hj)).mono ?_
  rintro e w' ⟨rfl,rfl⟩
  exact ⟨rfl,Keep.refl _⟩
theorem addno_full (h:ST w b0 s q t m A c n P) {id:Int} (hk:id ∉ keys (lst P n)) (hs:s≤n) (k:Int):AddNo w t id k 7:=fun W kW=>by
  have h1:=h.keep kW
  have hl:=h1.tb.len
  rw [prs_len] at hl
  refine (tbadd_full h1.tb id k (look_out hk) ?_).mono ?_
  · rw [prs_len]
    split at hl <;> split <;> omega
  · rintro e w' ⟨rfl,d⟩
    exact ⟨rfl,d.below⟩
end
end Go.Proofs.YtnclkefddkgojaaGreatDoor.T13

namespace Go.Proofs.YtnclkefddkgojaaGreatDoor.T13
open Go.RowKit Go.Sort Go.Lib V12
theorem nx_i64 (p e:Int):I64 (nx p e):=by
  unfold nx I64
  repeat' split
  all_goals omega
section
variable {w w':World} {b0:Nat} {s:Int} {q t m:Nat} {A:Option Addr} {c n:Nat} {P:Nat→PodV}
theorem ST.notPod (h:ST w b0 s q t m A c n P) {b:Nat} (hT:Typ w b 35) (hg:¬ (Value.slice A n c).ownBlock = some b):¬ FE q t m A c n P b:=by
  rintro (rfl | rfl | rfl | h1 | ⟨i,hi,h1⟩)
  · exact absurd (typ_one hT h.tq) (by decide)
  · exact absurd (typ_one hT h.tt) (by decide)
  · exact h.offT hT rfl
  · exact hg h1
  · exact absurd (typ_one hT (h.tr hi h1)) (by decide)
theorem put9_fr {D:Nat→Prop} {w0 w:World} {s:Nat} (x:PodV) (k:Fr D w0 w) (hs:w0.heap.size≤s):Fr D w0 (put9 w s x) :=
  ((((((((k.set (by right;exact hs) _).set (by right;exact hs) _).set (by right;exact hs) _).set (by right;exact hs) _).set (by right;exact hs) _).set (by right;exact hs) _).set (by right;exact hs) _).set (by right;exact hs) _).set (by right;exact hs) _
theorem app_end {w1 Wf w2:World} {b:Nat} (H:ST w b0 s q t m A c n P) (H2:ST w1 b0 s q t m A c n P) (K1:Keep w w1) {j:Nat} (hj:j < n) {e nd dl:Int} (hx:nx (P j).h e≠0) (hb:b = w.heap.size)
    (Y1:w1.heap[b]? = some (.cells (podB zpod) 35 (0,0))) (F:Fr (fun i=>(Value.slice A n c).ownBlock = some i) w1 Wf) {y:PodV} (hy:appP (P j) e nd dl = y) (R:RowP Wf b0 (.slice A n c) n (put P j y)) (k2:Keep Wf w2) {B:Option Addr} {d:Nat} (Rq:Req w2 Wf.heap.size (y.at B d)) :
    w2.heap[b]? = some (.cells (podB zpod) 35 (0,0))∧(put9 w2 b (y.at B d)).heap[b]? = some (.cells (podB (y.at B d)) 35 (0,0))∧Req (put9 w2 b (y.at B d)) w.heap.size (y.at B d)∧ST (put9 w2 b (y.at B d)) b0 s q t m A c n (put P j y)∧Fr (fun i=>(Value.slice A n c).ownBlock = some i) w (put9 w2 b (y.at B d)):=by
  have hgb:¬ (Value.slice A n c).ownBlock = some b:=fun e=>by
    have:=(H.lt b (Or.inr (Or.inr (Or.inr (Or.inl e))))).2
    omega
  have blt:b < w1.heap.size:=lt_blk Y1
  have Y2:=k2.block ((F.block b blt hgb).trans Y1)
  have S:ST Wf b0 s q t m A c n (put P j y):=by
    rw [← hy] at R ⊢
    exact H2.app hj hx F R
  have S2:=S.keep k2
  have np:=S2.notPod ⟨_,_,Y2⟩ hgb
  have sz:=F.size
  have sz0:=K1.size
  refine ⟨Y2,put9_heap _ zpod Y2,?_,S2.frame fun i hi=>put9_block _ fun e=>np (by rw [← e];exact hi),put9_fr _ ((Fr.after K1 F).keep k2) (by omega)⟩
  refine own_base' (b:=Wf.heap.size) ?_ (by omega)
  refine own_blocks1 Rq fun g hg=>put9_block _ ?_
  have:=(Rq.lt g hg).1
  omega
set_option maxRecDepth 100000 in
set_option maxHeartbeats 8000000 in
theorem pdapply_in (h:ST w b0 s q t m A c n P) {j:Nat} (hj:j < n) (e nd dl:Int) (hnd:I64 nd) (hdl:I64 dl) (hx:nx (P j).h e≠0) (hm:(P j).m≤1000) :
    Calls Tryz.prog 55 #[.pointer (some ⟨q,0,none⟩),.int .i64 (P j).k,.int .i64 e,.int .i64 nd,.int .i64 dl] w fun e' w'=>∃ B d,e' = .returned (.tuple #[((appP (P j) e nd dl).at B d).val,.nilIface])∧Req w' w.heap.size ((appP (P j) e nd dl).at B d)∧PodOk ((appP (P j) e nd dl).at B d)∧ST w' b0 s q t m A c n (put P j (appP (P j) e nd dl))∧Fr (fun i=>(Value.slice A n c).ownBlock = some i) w w':=by
  obtain ⟨W,hW⟩:∃ W,W = w.alloc (.cells (podB zpod) 35):=⟨_,rfl⟩
  have KW:Hid (Keep w W):=by rw [hW];exact Keep.one _ _
  obtain ⟨b,hb⟩:∃ b,b = w.heap.size:=⟨_,rfl⟩
  have Y:Hid (W.heap[b]? = some (.cells (podB zpod) 35 (0,0))):=by rw [hW,hb];exact heap_alloc_new _ _
  have hsz:Hid (W.heap.size = b + 1):=by show _ = _;rw [hW,World.size_alloc,hb]
  have h1:=h.keep KW.out
  have hF:=Lib.hid (pdindex_in h1 hj)
  have hN:=Lib.hid (fun W=>pdnext_fn (P j).h e W)
  have c0:=h1.c0
  obtain ⟨g,hA,X,_,hown⟩:=h1.at hj
  subst hA
  have hgb:¬ g = b:=fun e=>by have:=(h.lt g (Or.inr (Or.inr (Or.inr (Or.inl hown))))).2;omega
  have q1:=pods_at g 0 n c j hj
  have H1:=Lib.hid h1
  have H:=Lib.hid h
  obtain ⟨x,hxx⟩:∃ x,x = P j:=⟨_,rfl⟩
  rw [← hxx] at hF hN X hx hm ⊢
  have hy:Hid (∃ y,y = nx x.h e):=⟨_,rfl⟩
  obtain ⟨y,hy⟩:=hy.out
  have hyr:I64 y:=by rw [hy];exact nx_i64 _ _
  have hd:decide (nx x.h e≠0) = true:=decide_eq_true hx
  rw [hd,← hy] at hN
  obtain ⟨x0,x1,x2,x3,x4,x5,x6,x7,x8⟩:=X
  rw [Nat.zero_add] at x0 x1 x2 x3 x4 x5 x6 x7 x8 q1
  have hbw:Hid (w.heap.size≤b):=by show _≤_;omega
  have he:e = 1∨e = 2∨e = 3∨e = 4∨e = 5:=by
    by_cases h1:e = 1∨e = 2∨e = 3∨e = 4∨e = 5
    · exact h1
    · exfalso
      apply hx
      unfold nx
      repeat' split
      all_goals first | rfl | omega
  replace hxx:=Lib.hid hxx
  replace hy:=Lib.hid hy
  replace hyr:=Lib.hid hyr
  have hx':=Lib.hid hx
  have hm':=Lib.hid hm
  replace hown:=Lib.hid hown
  replace hnd:=Lib.hid hnd
  replace hdl:=Lib.hid hdl
  unfold podB zpod at hW
  clear h h1 hx hm hd
  go_enter Tryz.func55,Tryz.ntmps55
  go_wp2_with fail
  rw [← hW,← hb]
  replace hW:=Lib.hid hW
  replace hb:=Lib.hid hb
  refine hF.out.mono ?_
  rintro e' w1 ⟨rfl,rfl⟩
  go_wp2_with fail
  refine (hN.out _).mono ?_
  rintro e' w1 ⟨rfl,k1⟩
  replace x0:=k1.cell x0;replace x1:=k1.cell x1;replace x2:=k1.cell x2;replace x3:=k1.cell x3;replace x4:=k1.cell x4;replace x5:=k1.cell x5;replace x6:=k1.cell x6;replace x7:=k1.cell x7;replace x8:=k1.cell x8
  have H2:=Lib.hid (H1.out.keep k1)
  have fz:∀ i,w1.frozen? ⟨g,i,none⟩ = false:=fun i=>by
    obtain ⟨cur,e⟩:=row_kind H2.out.rp.row hown.out
    exact frozen_of_row w1 g i _ _ e
  have Y1:=Lib.hid (k1.block Y.out)
  have K1:=Lib.hid (KW.out.trans k1)
  have sz1:=Lib.hid k1.size
  clear k1 c0 q1 H1 Y
  rcases he with rfl | rfl | rfl | rfl | rfl
  · have hv:Hid (appP x 1 nd dl = chg x y nd (-1)):=by show _ = _;rw [hy.out];unfold appP chg;simp
    have R3:Hid (RowP (((w1.setCell ⟨g,j * 9 + 6,none⟩ (.int .i64 y)).setCell ⟨g,j * 9 + 8,none⟩ (.int .i64 (-1))).setCell ⟨g,j * 9 + 7,none⟩ (.int .i64 nd)) b0 (.slice (some ⟨g,0,none⟩) n c) n (put P j (chg x y nd (-1)))):=by
      have:=H2.out.rp.set3 hj hyr.out hnd.out
      rw [← hxx.out] at this
      exact this
    have F3:Hid (Fr (fun i=>(Value.slice (some ⟨g,0,none⟩) n c).ownBlock = some i) w1 (((w1.setCell ⟨g,j * 9 + 6,none⟩ (.int .i64 y)).setCell ⟨g,j * 9 + 8,none⟩ (.int .i64 (-1))).setCell ⟨g,j * 9 + 7,none⟩ (.int .i64 nd))):=fr_set3 rfl
    go_wp2_with fail
    obtain ⟨Wf,hWf⟩:∃ Wf,Wf = (((w1.setCell ⟨g,j * 9 + 6,none⟩ (.int .i64 y)).setCell ⟨g,j * 9 + 8,none⟩ (.int .i64 (-1))).setCell ⟨g,j * 9 + 7,none⟩ (.int .i64 nd)):=⟨_,rfl⟩
    rw [← hWf] at R3 F3 ⊢
    replace hWf:=Lib.hid hWf
    have pi:PodIs Wf (chg x y nd (-1)):=by
      have h1:=R3.out.own j hj
      have h2:=R3.out.ok j hj
      rw [put_at] at h1 h2
      exact h1.is h2
    have cC:=pclone_fn (chg x y nd (-1)) Wf pi hm'.out
    unfold PodV.at PodV.val chg at cC
    refine cC.mono ?_
    rintro e' w2 ⟨B,d,rfl,R,ok,_,k2⟩
    obtain ⟨Y2,E1,E2,E3,E4⟩:=app_end H.out H2.out K1.out hj (by rw [← hxx.out];exact hx'.out) hb.out Y1.out F3.out (e:=1) (nd:=nd) (dl:=dl) (y:=(chg x y nd (-1))) (by rw [← hxx.out,hv.out]) R3.out k2 R
    have E2:=Lib.hid E2
    have E3:=Lib.hid E3
    have E4:=Lib.hid E4
    have ok:=Lib.hid ok
    obtain ⟨d0,d1,d2,d3,d4,d5,d6,d7,d8,g0⟩:=blk9 Y2
    unfold zpod at d0 d1 d2 d3 d4 d5 d6 d7 d8
    have E1:=Lib.hid E1
    clear R k2 Y2 pi cC x0 x1 x2 x3 x4 x5 x6 x7 x8 fz
    go_wp2
    obtain ⟨e0,e1,e2,e3,e4,e5,e6,e7,e8,_⟩:=blk9 E1.out
    rw [hv.out]
    have E:=And.intro E2.out (And.intro ok.out (And.intro E3.out E4.out))
    unfold put9 PodV.at chg at *
    refine bodyPost_ret (v:=.tuple #[.agg #[.int .i64 x.k,.int .i64 x.p,.bool x.f,.int .i64 x.g,.slice B x.m d,.int .i64 x.a,.int .i64 y,.int .i64 nd,.int .i64 (-1)],.nilIface]) (by simp [results,Tryz.results55,go_sem,e0,e1,e2,e3,e4,e5,e6,e7,e8]) rfl ⟨B,d,rfl,E⟩
  · have hv:Hid (appP x 2 nd dl = chg x y nd (-1)):=by show _ = _;rw [hy.out];unfold appP chg;simp
    have R3:Hid (RowP (((w1.setCell ⟨g,j * 9 + 6,none⟩ (.int .i64 y)).setCell ⟨g,j * 9 + 8,none⟩ (.int .i64 (-1))).setCell ⟨g,j * 9 + 7,none⟩ (.int .i64 nd)) b0 (.slice (some ⟨g,0,none⟩) n c) n (put P j (chg x y nd (-1)))):=by
      have:=H2.out.rp.set3 hj hyr.out hnd.out
      rw [← hxx.out] at this
      exact this
    have F3:Hid (Fr (fun i=>(Value.slice (some ⟨g,0,none⟩) n c).ownBlock = some i) w1 (((w1.setCell ⟨g,j * 9 + 6,none⟩ (.int .i64 y)).setCell ⟨g,j * 9 + 8,none⟩ (.int .i64 (-1))).setCell ⟨g,j * 9 + 7,none⟩ (.int .i64 nd))):=fr_set3 rfl
    go_wp2_with fail
    obtain ⟨Wf,hWf⟩:∃ Wf,Wf = (((w1.setCell ⟨g,j * 9 + 6,none⟩ (.int .i64 y)).setCell ⟨g,j * 9 + 8,none⟩ (.int .i64 (-1))).setCell ⟨g,j * 9 + 7,none⟩ (.int .i64 nd)):=⟨_,rfl⟩
    rw [← hWf] at R3 F3 ⊢
    replace hWf:=Lib.hid hWf
    have pi:PodIs Wf (chg x y nd (-1)):=by
      have h1:=R3.out.own j hj
      have h2:=R3.out.ok j hj
      rw [put_at] at h1 h2
      exact h1.is h2
    have cC:=pclone_fn (chg x y nd (-1)) Wf pi hm'.out
    unfold PodV.at PodV.val chg at cC
    refine cC.mono ?_
    rintro e' w2 ⟨B,d,rfl,R,ok,_,k2⟩
    obtain ⟨Y2,E1,E2,E3,E4⟩:=app_end H.out H2.out K1.out hj (by rw [← hxx.out];exact hx'.out) hb.out Y1.out F3.out (e:=2) (nd:=nd) (dl:=dl) (y:=(chg x y nd (-1))) (by rw [← hxx.out,hv.out]) R3.out k2 R
    have E2:=Lib.hid E2
    have E3:=Lib.hid E3
    have E4:=Lib.hid E4
    have ok:=Lib.hid ok
    obtain ⟨d0,d1,d2,d3,d4,d5,d6,d7,d8,g0⟩:=blk9 Y2
    unfold zpod at d0 d1 d2 d3 d4 d5 d6 d7 d8
    have E1:=Lib.hid E1
    clear R k2 Y2 pi cC x0 x1 x2 x3 x4 x5 x6 x7 x8 fz
    go_wp2
    obtain ⟨e0,e1,e2,e3,e4,e5,e6,e7,e8,_⟩:=blk9 E1.out
    rw [hv.out]
    have E:=And.intro E2.out (And.intro ok.out (And.intro E3.out E4.out))
    unfold put9 PodV.at chg at *
    refine bodyPost_ret (v:=.tuple #[.agg #[.int .i64 x.k,.int .i64 x.p,.bool x.f,.int .i64 x.g,.slice B x.m d,.int .i64 x.a,.int .i64 y,.int .i64 nd,.int .i64 (-1)],.nilIface]) (by simp [results,Tryz.results55,go_sem,e0,e1,e2,e3,e4,e5,e6,e7,e8]) rfl ⟨B,d,rfl,E⟩
  · have hv:Hid (appP x 3 nd dl = chg x y (-1) (-1)):=by show _ = _;rw [hy.out];unfold appP chg;simp
    have m1:I64 (-1):=by unfold I64;omega
    have R3:Hid (RowP (((w1.setCell ⟨g,j * 9 + 6,none⟩ (.int .i64 y)).setCell ⟨g,j * 9 + 8,none⟩ (.int .i64 (-1))).setCell ⟨g,j * 9 + 7,none⟩ (.int .i64 (-1))) b0 (.slice (some ⟨g,0,none⟩) n c) n (put P j (chg x y (-1) (-1)))):=by
      have:=H2.out.rp.set3 hj hyr.out m1
      rw [← hxx.out] at this
      exact this
    have F3:Hid (Fr (fun i=>(Value.slice (some ⟨g,0,none⟩) n c).ownBlock = some i) w1 (((w1.setCell ⟨g,j * 9 + 6,none⟩ (.int .i64 y)).setCell ⟨g,j * 9 + 8,none⟩ (.int .i64 (-1))).setCell ⟨g,j * 9 + 7,none⟩ (.int .i64 (-1)))):=fr_set3 rfl
    replace m1:=Lib.hid m1
    go_wp2_with fail
    obtain ⟨Wf,hWf⟩:∃ Wf,Wf = (((w1.setCell ⟨g,j * 9 + 6,none⟩ (.int .i64 y)).setCell ⟨g,j * 9 + 8,none⟩ (.int .i64 (-1))).setCell ⟨g,j * 9 + 7,none⟩ (.int .i64 (-1))):=⟨_,rfl⟩
    rw [← hWf] at R3 F3 ⊢
    replace hWf:=Lib.hid hWf
    have pi:PodIs Wf (chg x y (-1) (-1)):=by
      have h1:=R3.out.own j hj
      have h2:=R3.out.ok j hj
      rw [put_at] at h1 h2
      exact h1.is h2
    have cC:=pclone_fn (chg x y (-1) (-1)) Wf pi hm'.out
    unfold PodV.at PodV.val chg at cC
    refine cC.mono ?_
    rintro e' w2 ⟨B,d,rfl,R,ok,_,k2⟩
    obtain ⟨Y2,E1,E2,E3,E4⟩:=app_end H.out H2.out K1.out hj (by rw [← hxx.out];exact hx'.out) hb.out Y1.out F3.out (e:=3) (nd:=nd) (dl:=dl) (y:=(chg x y (-1) (-1))) (by rw [← hxx.out,hv.out]) R3.out k2 R
    have E2:=Lib.hid E2
    have E3:=Lib.hid E3
    have E4:=Lib.hid E4
    have ok:=Lib.hid ok
    obtain ⟨d0,d1,d2,d3,d4,d5,d6,d7,d8,g0⟩:=blk9 Y2
    unfold zpod at d0 d1 d2 d3 d4 d5 d6 d7 d8
    have E1:=Lib.hid E1
    clear R k2 Y2 pi cC x0 x1 x2 x3 x4 x5 x6 x7 x8 fz
    go_wp2
    obtain ⟨e0,e1,e2,e3,e4,e5,e6,e7,e8,_⟩:=blk9 E1.out
    rw [hv.out]
    have E:=And.intro E2.out (And.intro ok.out (And.intro E3.out E4.out))
    unfold put9 PodV.at chg at *
    refine bodyPost_ret (v:=.tuple #[.agg #[.int .i64 x.k,.int .i64 x.p,.bool x.f,.int .i64 x.g,.slice B x.m d,.int .i64 x.a,.int .i64 y,.int .i64 (-1),.int .i64 (-1)],.nilIface]) (by simp [results,Tryz.results55,go_sem,e0,e1,e2,e3,e4,e5,e6,e7,e8]) rfl ⟨B,d,rfl,E⟩
  · have hv:Hid (appP x 4 nd dl = chg x y x.d dl):=by show _ = _;rw [hy.out];unfold appP chg;simp
    have R3:Hid (RowP (((w1.setCell ⟨g,j * 9 + 6,none⟩ (.int .i64 y)).setCell ⟨g,j * 9 + 8,none⟩ (.int .i64 (-1))).setCell ⟨g,j * 9 + 8,none⟩ (.int .i64 dl)) b0 (.slice (some ⟨g,0,none⟩) n c) n (put P j (chg x y x.d dl))):=by
      have:=H2.out.rp.setT hj hyr.out hdl.out
      rw [← hxx.out] at this
      exact this
    have F3:Hid (Fr (fun i=>(Value.slice (some ⟨g,0,none⟩) n c).ownBlock = some i) w1 (((w1.setCell ⟨g,j * 9 + 6,none⟩ (.int .i64 y)).setCell ⟨g,j * 9 + 8,none⟩ (.int .i64 (-1))).setCell ⟨g,j * 9 + 8,none⟩ (.int .i64 dl))):=fr_set3 rfl
    have z8:=(row_cel R3.out.row hj).e8
    rw [put_at,Nat.zero_add] at z8
    unfold chg at z8
    dsimp only at z8
    go_wp2_with fail
    obtain ⟨Wf,hWf⟩:∃ Wf,Wf = (((w1.setCell ⟨g,j * 9 + 6,none⟩ (.int .i64 y)).setCell ⟨g,j * 9 + 8,none⟩ (.int .i64 (-1))).setCell ⟨g,j * 9 + 8,none⟩ (.int .i64 dl)):=⟨_,rfl⟩
    rw [← hWf] at R3 F3 ⊢
    replace hWf:=Lib.hid hWf
    have pi:PodIs Wf (chg x y x.d dl):=by
      have h1:=R3.out.own j hj
      have h2:=R3.out.ok j hj
      rw [put_at] at h1 h2
      exact h1.is h2
    have cC:=pclone_fn (chg x y x.d dl) Wf pi hm'.out
    unfold PodV.at PodV.val chg at cC
    refine cC.mono ?_
    rintro e' w2 ⟨B,d,rfl,R,ok,_,k2⟩
    obtain ⟨Y2,E1,E2,E3,E4⟩:=app_end H.out H2.out K1.out hj (by rw [← hxx.out];exact hx'.out) hb.out Y1.out F3.out (e:=4) (nd:=nd) (dl:=dl) (y:=(chg x y x.d dl)) (by rw [← hxx.out,hv.out]) R3.out k2 R
    have E2:=Lib.hid E2
    have E3:=Lib.hid E3
    have E4:=Lib.hid E4
    have ok:=Lib.hid ok
    obtain ⟨d0,d1,d2,d3,d4,d5,d6,d7,d8,g0⟩:=blk9 Y2
    unfold zpod at d0 d1 d2 d3 d4 d5 d6 d7 d8
    have E1:=Lib.hid E1
    clear R k2 Y2 pi cC x0 x1 x2 x3 x4 x5 x6 x7 x8 fz
    go_wp2
    obtain ⟨e0,e1,e2,e3,e4,e5,e6,e7,e8,_⟩:=blk9 E1.out
    rw [hv.out]
    have E:=And.intro E2.out (And.intro ok.out (And.intro E3.out E4.out))
    unfold put9 PodV.at chg at *
    refine bodyPost_ret (v:=.tuple #[.agg #[.int .i64 x.k,.int .i64 x.p,.bool x.f,.int .i64 x.g,.slice B x.m d,.int .i64 x.a,.int .i64 y,.int .i64 x.d,.int .i64 dl],.nilIface]) (by simp [results,Tryz.results55,go_sem,e0,e1,e2,e3,e4,e5,e6,e7,e8]) rfl ⟨B,d,rfl,E⟩
  · have hv:Hid (appP x 5 nd dl = chg x y (-1) (-1)):=by show _ = _;rw [hy.out];unfold appP chg;simp
    have m1:I64 (-1):=by unfold I64;omega
    have R3:Hid (RowP (((w1.setCell ⟨g,j * 9 + 6,none⟩ (.int .i64 y)).setCell ⟨g,j * 9 + 8,none⟩ (.int .i64 (-1))).setCell ⟨g,j * 9 + 7,none⟩ (.int .i64 (-1))) b0 (.slice (some ⟨g,0,none⟩) n c) n (put P j (chg x y (-1) (-1)))):=by
      have:=H2.out.rp.set3 hj hyr.out m1
      rw [← hxx.out] at this
      exact this
    have F3:Hid (Fr (fun i=>(Value.slice (some ⟨g,0,none⟩) n c).ownBlock = some i) w1 (((w1.setCell ⟨g,j * 9 + 6,none⟩ (.int .i64 y)).setCell ⟨g,j * 9 + 8,none⟩ (.int .i64 (-1))).setCell ⟨g,j * 9 + 7,none⟩ (.int .i64 (-1)))):=fr_set3 rfl
    replace m1:=Lib.hid m1
    go_wp2_with fail
    obtain ⟨Wf,hWf⟩:∃ Wf,Wf = (((w1.setCell ⟨g,j * 9 + 6,none⟩ (.int .i64 y)).setCell ⟨g,j * 9 + 8,none⟩ (.int .i64 (-1))).setCell ⟨g,j * 9 + 7,none⟩ (.int .i64 (-1))):=⟨_,rfl⟩
    rw [← hWf] at R3 F3 ⊢
    replace hWf:=Lib.hid hWf
    have pi:PodIs Wf (chg x y (-1) (-1)):=by
      have h1:=R3.out.own j hj
      have h2:=R3.out.ok j hj
      rw [put_at] at h1 h2
      exact h1.is h2
    have cC:=pclone_fn (chg x y (-1) (-1)) Wf pi hm'.out
    unfold PodV.at PodV.val chg at cC
    refine cC.mono ?_
    rintro e' w2 ⟨B,d,rfl,R,ok,_,k2⟩
    obtain ⟨Y2,E1,E2,E3,E4⟩:=app_end H.out H2.out K1.out hj (by rw [← hxx.out];exact hx'.out) hb.out Y1.out F3.out (e:=5) (nd:=nd) (dl:=dl) (y:=(chg x y (-1) (-1))) (by rw [← hxx.out,hv.out]) R3.out k2 R
    have E2:=Lib.hid E2
    have E3:=Lib.hid E3
    have E4:=Lib.hid E4
    have ok:=Lib.hid ok
    obtain ⟨d0,d1,d2,d3,d4,d5,d6,d7,d8,g0⟩:=blk9 Y2
    unfold zpod at d0 d1 d2 d3 d4 d5 d6 d7 d8
    have E1:=Lib.hid E1
    clear R k2 Y2 pi cC x0 x1 x2 x3 x4 x5 x6 x7 x8 fz
    go_wp2
    obtain ⟨e0,e1,e2,e3,e4,e5,e6,e7,e8,_⟩:=blk9 E1.out
    rw [hv.out]
    have E:=And.intro E2.out (And.intro ok.out (And.intro E3.out E4.out))
    unfold put9 PodV.at chg at *
    refine bodyPost_ret (v:=.tuple #[.agg #[.int .i64 x.k,.int .i64 x.p,.bool x.f,.int .i64 x.g,.slice B x.m d,.int .i64 x.a,.int .i64 y,.int .i64 (-1),.int .i64 (-1)],.nilIface]) (by simp [results,Tryz.results55,go_sem,e0,e1,e2,e3,e4,e5,e6,e7,e8]) rfl ⟨B,d,rfl,E⟩
end
end Go.Proofs.YtnclkefddkgojaaGreatDoor.T13

