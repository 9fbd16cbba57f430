/-
  The law's awake. Condition: errors.errorType holds its own.
  What the laws' ends want. No condition, no walk.
-/
import Derived.Test.YtinndaolcaehiaaGreatDoorD37
import Derived.Test.YtinndaolcaehiaaGreatDoorD33
import Derived.Test.YtinndaolcaehiaaGreatDoorD34
namespace Go.Proofs.YtinndaolcaehiaaGreatDoor.T15
open Go.RowKit Go.Sort Go.Lib V12 T13 T14
set_option maxRecDepth 100000 in
set_option maxHeartbeats 16000000 in
theorem awake_true {CS:PredC} (C:Con CS) (N:NewXOk CS) (w:World) (hg:ErrT w):Calls Tryz.prog 6 #[] w fun e w'=>e = .returned (.bool true)∧Keep w w':=by
  obtain ⟨W0,hW0⟩:∃ W0,W0 = ((w.alloc (.cells (podB (lp 1 5 0 0)) 24)).alloc (.cells (podB (lp 2 5 2 7)) 24)).alloc (.cells (podB (lp 3 4 2 7)) 24):=⟨_,rfl⟩
  obtain ⟨W1,hW1⟩:∃ W1,W1 = w.alloc (.cells (podB (lp 1 5 0 0)) 24):=⟨_,rfl⟩
  obtain ⟨W2,hW2⟩:∃ W2,W2 = W1.alloc (.cells (podB (lp 2 5 2 7)) 24):=⟨_,rfl⟩
  have z1:W1.heap.size = w.heap.size + 1:=by rw [hW1,World.size_alloc]
  have z2:W2.heap.size = w.heap.size + 1 + 1:=by rw [hW2,World.size_alloc,z1]
  have hW0':W0 = W2.alloc (.cells (podB (lp 3 4 2 7)) 24):=by rw [hW0,hW2,hW1]
  have BP:Hid (W0.heap[w.heap.size]? = some (.cells (podB (lp 1 5 0 0)) 24 (0,0))):=by
    show _ = _
    rw [hW0',hW2,hW1]
    exact (((Keep.one _ _).alloc _):Keep (w.alloc (.cells (podB (lp 1 5 0 0)) 24)) _).block (heap_alloc_new _ _)
  have BQ:Hid (W0.heap[w.heap.size + 1]? = some (.cells (podB (lp 2 5 2 7)) 24 (0,0))):=by
    show _ = _
    rw [hW0',hW2,← z1]
    exact (Keep.one (W1.alloc _) _).block (heap_alloc_new _ _)
  have BR:Hid (W0.heap[w.heap.size + 1 + 1]? = some (.cells (podB (lp 3 4 2 7)) 24 (0,0))):=by
    show _ = _
    rw [hW0',← z2]
    exact heap_alloc_new _ _
  have kW:Hid (Keep w W0):=by rw [hW0];exact ((Keep.one _ _).alloc _).alloc _
  have hg0:Hid (ErrT W0):=hg.keep kW.out
  clear hW0' hW1 hW2 z1 z2
  have KW0:Hid (Keep W0 W0):=Keep.refl _
  have cN:Hid (Calls Tryz.prog 14 #[.int .i64 1] W0 fun e w'=>∃ q,e = .returned (.pointer (some ⟨q,0,none⟩))∧CS W0 1 q [] [] (fun _=>False) w'∧Keep W0 w'):=N 1 W0 W0 _ (Keep.refl _) (fun _ h=>h.elim) (by omega)
  obtain ⟨bp,hbp⟩:∃ b,b = w.heap.size:=⟨_,rfl⟩
  obtain ⟨bq,hbq⟩:∃ b,b = w.heap.size + 1:=⟨_,rfl⟩
  obtain ⟨br,hbr⟩:∃ b,b = w.heap.size + 1 + 1:=⟨_,rfl⟩
  rw [← hbp] at BP
  rw [← hbq] at BQ
  rw [← hbr] at BR
  unfold podB lp zn at hW0
  simp only at hW0
  unfold podB lp zn at BP BQ BR
  replace hg:=Lib.hid hg
  go_enter Tryz.func6,Tryz.ntmps6
  go_wp2_with fail
  rw [← hW0,← hbr,← hbq,← hbp]
  replace hW0:=Lib.hid hW0
  replace hbp:=Lib.hid hbp
  replace hbq:=Lib.hid hbq
  replace hbr:=Lib.hid hbr
  refine cN.out.mono ?_
  rintro e w1 ⟨q,rfl,o1,_⟩
  replace o1:=Lib.hid o1
  have Kw1:Hid (Keep W0 w1):=C.kp o1.out
  clear cN
  obtain ⟨ba,hba⟩:∃ b,b = w1.heap.size:=⟨_,rfl⟩
  obtain ⟨Wa,hWa⟩:∃ W,W = w1.alloc (.cells #[.int .i64 9] 2):=⟨_,rfl⟩
  have ka:Hid (Keep w1 Wa):=by rw [hWa];exact Keep.one _ _
  have Ba:Hid (Wa.heap[ba]? = some (.cells #[.int .i64 9] 2 (0,0))):=by show _ = _;rw [hWa,hba];exact heap_alloc_new _ _
  have cc:=Lib.hid (aw_node C (C.keep o1.out ka.out) hg0.out Ba.out (k:=7) (z:=9) (by unfold I64;omega) (by omega) (by decide) (by decide))
  go_wp2_with fail
  rw [← hWa,← hba]
  replace hWa:=Lib.hid hWa
  replace hba:=Lib.hid hba
  refine cc.out.mono ?_
  rintro e w2 ⟨rfl,o2⟩
  clear cc
  replace o2:=Lib.hid o2
  obtain ⟨bs,hbs⟩:∃ b,b = w2.heap.size:=⟨_,rfl⟩
  obtain ⟨Ws,hWs⟩:∃ W,W = w2.alloc (.cells #[.int .i64 3] 2):=⟨_,rfl⟩
  have ks:Hid (Keep w2 Ws):=by rw [hWs];exact Keep.one _ _
  have Bs:Hid (Ws.heap[bs]? = some (.cells #[.int .i64 3] 2 (0,0))):=by show _ = _;rw [hWs,hbs];exact heap_alloc_new _ _
  have cc:=Lib.hid (aw_sub C (C.keep o2.out ks.out) hg0.out Bs.out (k:=2) (p:=5) (z:=3) (by unfold I64;omega) (by unfold I64;omega) (by omega) (by decide) (by decide))
  go_wp2_with fail
  rw [← hWs,← hbs]
  replace hWs:=Lib.hid hWs
  replace hbs:=Lib.hid hbs
  refine cc.out.mono ?_
  rintro e w3 ⟨r,rfl,o3⟩
  clear cc
  replace o3:=Lib.hid o3
  have cc:=Lib.hid (aw_claim C o3.out hg0.out 2 7 (by unfold I64;omega) (by unfold I64;omega) (by decide) (by decide) (by decide +kernel) (L2:=[lc 2 5 3 0 2 7]) rfl)
  go_wp2_with fail
  refine cc.out.mono ?_
  rintro e w4 ⟨r2,rfl,o4⟩
  clear cc
  replace o4:=Lib.hid o4
  have cc:Hid (Calls Tryz.prog 12 #[.pointer (some ⟨q,0,none⟩),.int .i64 2] w4 fun e w'=>e = .returned (.tuple #[.int .i64 7,.bool true])∧Keep w4 w'):=rown_fn C o4.out 2 (by unfold I64;omega) (by decide)
  go_wp2_with fail
  refine cc.out.mono ?_
  rintro e w5 ⟨rfl,kk⟩
  clear cc
  have o5:=Lib.hid (C.keep o4.out kk)
  have Kw5:Hid (Keep W0 w5):=C.kp o5.out
  clear kk
  have cc:Hid (Calls Tryz.prog 12 #[.pointer (some ⟨q,0,none⟩),.int .i64 1] w5 fun e w'=>e = .returned (.tuple #[.int .i64 0,.bool false])∧Keep w5 w'):=rown_fn C o5.out 1 (by unfold I64;omega) (by decide)
  go_wp2_with fail
  refine cc.out.mono ?_
  rintro e w6 ⟨rfl,kk⟩
  clear cc
  have o6:=Lib.hid (C.keep o5.out kk)
  have Kw6:Hid (Keep W0 w6):=C.kp o6.out
  clear kk
  have XP:=blk9 (x:=lp 1 5 0 0) (Keep.block Kw6.out BP.out)
  have xP0:=XP.e0;have xP1:=XP.e1;have xP2:=XP.e2;have xP3:=XP.e3;have xP4:=XP.e4;have xP5:=XP.e5;have xP6:=XP.e6;have xP7:=XP.e7;have xP8:=XP.e8
  clear XP
  unfold lp zn at xP0 xP1 xP2 xP3 xP4 xP5 xP6 xP7 xP8
  simp only at xP0 xP1 xP2 xP3 xP4 xP5 xP6 xP7 xP8
  have XQ:=blk9 (x:=lp 2 5 2 7) (Keep.block Kw6.out BQ.out)
  have xQ0:=XQ.e0;have xQ1:=XQ.e1;have xQ2:=XQ.e2;have xQ3:=XQ.e3;have xQ4:=XQ.e4;have xQ5:=XQ.e5;have xQ6:=XQ.e6;have xQ7:=XQ.e7;have xQ8:=XQ.e8
  clear XQ
  unfold lp zn at xQ0 xQ1 xQ2 xQ3 xQ4 xQ5 xQ6 xQ7 xQ8
  simp only at xQ0 xQ1 xQ2 xQ3 xQ4 xQ5 xQ6 xQ7 xQ8
  have cc:Hid (Calls Tryz.prog 7 #[(lp 1 5 0 0).val,(lp 2 5 2 7).val,.int .i64 7] w6 fun e w'=>e = .returned (.bool true)∧Keep w6 w'):=sees_fn _ _ 7 w6
  unfold lp zn PodV.val at cc
  simp only at cc
  go_wp2_with fail
  refine cc.out.mono ?_
  rintro e w7 ⟨rfl,kk⟩
  clear cc
  clear xP0 xP1 xP2 xP3 xP4 xP5 xP6 xP7 xP8 xQ0 xQ1 xQ2 xQ3 xQ4 xQ5 xQ6 xQ7 xQ8
  have Kw7:Hid (Keep W0 w7):=Kw6.out.trans kk
  have o7:=Lib.hid (C.keep o6.out kk)
  clear kk
  have XP:=blk9 (x:=lp 1 5 0 0) (Keep.block Kw7.out BP.out)
  have xP0:=XP.e0;have xP1:=XP.e1;have xP2:=XP.e2;have xP3:=XP.e3;have xP4:=XP.e4;have xP5:=XP.e5;have xP6:=XP.e6;have xP7:=XP.e7;have xP8:=XP.e8
  clear XP
  unfold lp zn at xP0 xP1 xP2 xP3 xP4 xP5 xP6 xP7 xP8
  simp only at xP0 xP1 xP2 xP3 xP4 xP5 xP6 xP7 xP8
  have XQ:=blk9 (x:=lp 2 5 2 7) (Keep.block Kw7.out BQ.out)
  have xQ0:=XQ.e0;have xQ1:=XQ.e1;have xQ2:=XQ.e2;have xQ3:=XQ.e3;have xQ4:=XQ.e4;have xQ5:=XQ.e5;have xQ6:=XQ.e6;have xQ7:=XQ.e7;have xQ8:=XQ.e8
  clear XQ
  unfold lp zn at xQ0 xQ1 xQ2 xQ3 xQ4 xQ5 xQ6 xQ7 xQ8
  simp only at xQ0 xQ1 xQ2 xQ3 xQ4 xQ5 xQ6 xQ7 xQ8
  have cc:Hid (Calls Tryz.prog 7 #[(lp 1 5 0 0).val,(lp 2 5 2 7).val,.int .i64 8] w7 fun e w'=>e = .returned (.bool false)∧Keep w7 w'):=sees_fn _ _ 8 w7
  unfold lp zn PodV.val at cc
  simp only at cc
  go_wp2_with fail
  refine cc.out.mono ?_
  rintro e w8 ⟨rfl,kk⟩
  clear cc
  clear xP0 xP1 xP2 xP3 xP4 xP5 xP6 xP7 xP8 xQ0 xQ1 xQ2 xQ3 xQ4 xQ5 xQ6 xQ7 xQ8
  have Kw8:Hid (Keep W0 w8):=Kw7.out.trans kk
  have o8:=Lib.hid (C.keep o7.out kk)
  clear kk
  have XP:=blk9 (x:=lp 1 5 0 0) (Keep.block Kw8.out BP.out)
  have xP0:=XP.e0;have xP1:=XP.e1;have xP2:=XP.e2;have xP3:=XP.e3;have xP4:=XP.e4;have xP5:=XP.e5;have xP6:=XP.e6;have xP7:=XP.e7;have xP8:=XP.e8
  clear XP
  unfold lp zn at xP0 xP1 xP2 xP3 xP4 xP5 xP6 xP7 xP8
  simp only at xP0 xP1 xP2 xP3 xP4 xP5 xP6 xP7 xP8
  have XR:=blk9 (x:=lp 3 4 2 7) (Keep.block Kw8.out BR.out)
  have xR0:=XR.e0;have xR1:=XR.e1;have xR2:=XR.e2;have xR3:=XR.e3;have xR4:=XR.e4;have xR5:=XR.e5;have xR6:=XR.e6;have xR7:=XR.e7;have xR8:=XR.e8
  clear XR
  unfold lp zn at xR0 xR1 xR2 xR3 xR4 xR5 xR6 xR7 xR8
  simp only at xR0 xR1 xR2 xR3 xR4 xR5 xR6 xR7 xR8
  have cc:Hid (Calls Tryz.prog 7 #[(lp 1 5 0 0).val,(lp 3 4 2 7).val,.int .i64 7] w8 fun e w'=>e = .returned (.bool false)∧Keep w8 w'):=sees_fn _ _ 7 w8
  unfold lp zn PodV.val at cc
  simp only at cc
  go_wp2_with fail
  refine cc.out.mono ?_
  rintro e w9 ⟨rfl,kk⟩
  clear cc
  clear xP0 xP1 xP2 xP3 xP4 xP5 xP6 xP7 xP8 xR0 xR1 xR2 xR3 xR4 xR5 xR6 xR7 xR8
  have Kw9:Hid (Keep W0 w9):=Kw8.out.trans kk
  have o9:=Lib.hid (C.keep o8.out kk)
  clear kk
  have XQ:=blk9 (x:=lp 2 5 2 7) (Keep.block Kw9.out BQ.out)
  have xQ0:=XQ.e0;have xQ1:=XQ.e1;have xQ2:=XQ.e2;have xQ3:=XQ.e3;have xQ4:=XQ.e4;have xQ5:=XQ.e5;have xQ6:=XQ.e6;have xQ7:=XQ.e7;have xQ8:=XQ.e8
  clear XQ
  unfold lp zn at xQ0 xQ1 xQ2 xQ3 xQ4 xQ5 xQ6 xQ7 xQ8
  simp only at xQ0 xQ1 xQ2 xQ3 xQ4 xQ5 xQ6 xQ7 xQ8
  have cc:Hid (Calls Tryz.prog 7 #[(lp 2 5 2 7).val,(lp 2 5 2 7).val,.int .i64 7] w9 fun e w'=>e = .returned (.bool false)∧Keep w9 w'):=sees_fn _ _ 7 w9
  unfold lp zn PodV.val at cc
  simp only at cc
  go_wp2_with fail
  refine cc.out.mono ?_
  rintro e w10 ⟨rfl,kk⟩
  clear cc
  clear xQ0 xQ1 xQ2 xQ3 xQ4 xQ5 xQ6 xQ7 xQ8
  have Kw10:Hid (Keep W0 w10):=Kw9.out.trans kk
  have o10:=Lib.hid (C.keep o9.out kk)
  clear kk
  have XP:=blk9 (x:=lp 1 5 0 0) (Keep.block Kw10.out BP.out)
  have xP0:=XP.e0;have xP1:=XP.e1;have xP2:=XP.e2;have xP3:=XP.e3;have xP4:=XP.e4;have xP5:=XP.e5;have xP6:=XP.e6;have xP7:=XP.e7;have xP8:=XP.e8
  clear XP
  unfold lp zn at xP0 xP1 xP2 xP3 xP4 xP5 xP6 xP7 xP8
  simp only at xP0 xP1 xP2 xP3 xP4 xP5 xP6 xP7 xP8
  have cc:=Lib.hid (rsum_fn C o10.out (lp 1 5 0 0) 7 (by unfold I64;omega) (by decide) (by omega))
  unfold PodV.val lp zn at cc
  simp only at cc
  go_wp2_with fail
  refine cc.out.mono ?_
  rintro e w11 ⟨g,rfl,_,_,RG,kk⟩
  clear cc
  clear xP0 xP1 xP2 xP3 xP4 xP5 xP6 xP7 xP8
  have Kw11:Hid (Keep W0 w11):=Kw10.out.trans kk
  have o11:=Lib.hid (C.keep o10.out kk)
  clear kk
  replace RG:=Lib.hid RG
  obtain ⟨bx7,hbx7⟩:∃ b,b = w11.heap.size:=⟨_,rfl⟩
  obtain ⟨Wx7,hWx7⟩:∃ W,W = w11.alloc (.cells #[.int .i64 3] 2):=⟨_,rfl⟩
  have kx7:Hid (Keep w11 Wx7):=by rw [hWx7];exact Keep.one _ _
  have Bx7:Hid (Wx7.heap[bx7]? = some (.cells #[.int .i64 3] 2 (0,0))):=by show _ = _;rw [hWx7,hbx7];exact heap_alloc_new _ _
  have cc:=Lib.hid (same_one (c:=1) (RG.out.keep kx7.out) (z:=3) (by decide +kernel) Bx7.out (by omega))
  go_wp2_with fail
  rw [← hWx7,← hbx7]
  replace hWx7:=Lib.hid hWx7
  replace hbx7:=Lib.hid hbx7
  refine cc.out.mono ?_
  rintro e w12 ⟨rfl,kk⟩
  clear cc
  have Kw12:Hid (Keep W0 w12):=Kw11.out.trans (kx7.out.trans kk)
  have o12:=Lib.hid (C.keep o11.out (kx7.out.trans kk))
  clear kk RG
  have XP:=blk9 (x:=lp 1 5 0 0) (Keep.block Kw12.out BP.out)
  have xP0:=XP.e0;have xP1:=XP.e1;have xP2:=XP.e2;have xP3:=XP.e3;have xP4:=XP.e4;have xP5:=XP.e5;have xP6:=XP.e6;have xP7:=XP.e7;have xP8:=XP.e8
  clear XP
  unfold lp zn at xP0 xP1 xP2 xP3 xP4 xP5 xP6 xP7 xP8
  simp only at xP0 xP1 xP2 xP3 xP4 xP5 xP6 xP7 xP8
  have cc:=Lib.hid (rsum_fn C o12.out (lp 1 5 0 0) 8 (by unfold I64;omega) (by decide) (by omega))
  unfold PodV.val lp zn at cc
  simp only at cc
  go_wp2_with fail
  refine cc.out.mono ?_
  rintro e w13 ⟨g,rfl,_,_,RG,kk⟩
  clear cc
  clear xP0 xP1 xP2 xP3 xP4 xP5 xP6 xP7 xP8
  have Kw13:Hid (Keep W0 w13):=Kw12.out.trans kk
  have o13:=Lib.hid (C.keep o12.out kk)
  clear kk
  replace RG:=Lib.hid RG
  obtain ⟨bx8,hbx8⟩:∃ b,b = w13.heap.size:=⟨_,rfl⟩
  obtain ⟨Wx8,hWx8⟩:∃ W,W = w13.alloc (.cells #[.int .i64 0] 2):=⟨_,rfl⟩
  have kx8:Hid (Keep w13 Wx8):=by rw [hWx8];exact Keep.one _ _
  have Bx8:Hid (Wx8.heap[bx8]? = some (.cells #[.int .i64 0] 2 (0,0))):=by show _ = _;rw [hWx8,hbx8];exact heap_alloc_new _ _
  have cc:=Lib.hid (same_one (c:=1) (RG.out.keep kx8.out) (z:=0) (by decide +kernel) Bx8.out (by omega))
  go_wp2_with fail
  rw [← hWx8,← hbx8]
  replace hWx8:=Lib.hid hWx8
  replace hbx8:=Lib.hid hbx8
  refine cc.out.mono ?_
  rintro e w14 ⟨rfl,kk⟩
  clear cc
  have Kw14:Hid (Keep W0 w14):=Kw13.out.trans (kx8.out.trans kk)
  have o14:=Lib.hid (C.keep o13.out (kx8.out.trans kk))
  clear kk RG
  have cc:Hid (Calls Tryz.prog 20 #[.pointer (some ⟨q,0,none⟩)] w14 fun e w'=>∃ A c,e = .returned (.slice A 1 c)∧Keep w14 w'):=(rall_fn C o14.out (by decide)).mono fun e w' ⟨v,S,h1,h2,_,h3⟩=>by
    obtain ⟨A,c,rfl,_⟩:=own_form h2.row
    exact ⟨A,c,h1,h3⟩
  go_wp2_with fail
  refine cc.out.mono ?_
  rintro e w15 ⟨LA,lc1,rfl,kk⟩
  clear cc
  have Kw15:Hid (Keep W0 w15):=Kw14.out.trans kk
  clear kk
  have XP:=blk9 (x:=lp 1 5 0 0) (Keep.block Kw15.out BP.out)
  have xP0:=XP.e0;have xP1:=XP.e1;have xP2:=XP.e2;have xP3:=XP.e3;have xP4:=XP.e4;have xP5:=XP.e5;have xP6:=XP.e6;have xP7:=XP.e7;have xP8:=XP.e8
  clear XP
  unfold lp zn at xP0 xP1 xP2 xP3 xP4 xP5 xP6 xP7 xP8
  simp only at xP0 xP1 xP2 xP3 xP4 xP5 xP6 xP7 xP8
  have cc:=Lib.hid (rpods_nil (lp 1 5 0 0) 7 w15)
  unfold PodV.val lp zn at cc
  simp only at cc
  go_wp2_with fail
  refine cc.out.mono ?_
  rintro e w16 ⟨NA,nc,rfl,kk⟩
  clear cc
  clear xP0 xP1 xP2 xP3 xP4 xP5 xP6 xP7 xP8
  have Kw16:Hid (Keep W0 w16):=Kw15.out.trans kk
  clear kk
  go_wp2
  go_ret
  exact ⟨rfl,kW.out.trans Kw16.out⟩
end Go.Proofs.YtinndaolcaehiaaGreatDoor.T15

namespace Go.Proofs.YtinndaolcaehiaaGreatDoor.T15
open Go.RowKit Go.Sort Go.Lib V12 T13 T14
theorem sees_self (p:PodV) (nd:Int):seesB p nd p = false:=decide_eq_false fun h=>h.1 rfl
theorem sees_low {p q y:PodV} {nd:Int} (hk:q.k = p.k) (hp:q.p≤p.p) (h:seesB p nd y = true):seesB q nd y = true:=by
  have h:=of_decide_eq_true h
  exact decide_eq_true ⟨by rw [hk];exact h.1,h.2.1,h.2.2.1,Int.le_trans hp h.2.2.2⟩
def ids (L:List PodV):List Int:=L.map PodV.k
theorem low_sub {p q:PodV} {nd:Int} (L:List PodV) (hk:q.k = p.k) (hp:q.p≤p.p):List.Sublist (ids (seesL p nd L)) (ids (seesL q nd L)):=by
  have e:seesL p nd L = (seesL q nd L).filter (seesB p nd):=by
    unfold seesL
    rw [List.filter_filter]
    refine List.filter_congr fun x _=>?_
    cases h:seesB p nd x with
    | false=>rfl
    | true=>rw [sees_low hk hp h];rfl
  rw [e]
  exact List.filter_sublist.map _
theorem ids_at {L:List PodV} {S:Nat→PodV} {n j:Nat} (h:(T13.lst S n).map nm = L) (hj:j < n):(ids L)[j]? = some (S j).k:=by
  rw [← h]
  unfold ids
  rw [List.map_map,List.getElem?_map,lst_get hj]
  rfl
theorem ids_len (L:List PodV):(ids L).length = L.length:=List.length_map _
theorem sub_yes {a b:List Int} {k i:Nat} {x:Int} (h:List.Sublist (a.drop k) (b.drop i)) (ha:a[k]? = some x) (hb:b[i]? = some x):List.Sublist (a.drop (k + 1)) (b.drop (i + 1)):=by
  obtain ⟨hk,ea⟩:=List.getElem?_eq_some_iff.1 ha
  obtain ⟨hi,eb⟩:=List.getElem?_eq_some_iff.1 hb
  rw [List.drop_eq_getElem_cons hk,List.drop_eq_getElem_cons hi,ea,eb] at h
  exact List.cons_sublist_cons.1 h
theorem sub_no {a b:List Int} {k i:Nat} {x y:Int} (h:List.Sublist (a.drop k) (b.drop i)) (ha:a[k]? = some x) (hb:b[i]? = some y) (hne:y≠x):List.Sublist (a.drop k) (b.drop (i + 1)):=by
  obtain ⟨hk,ea⟩:=List.getElem?_eq_some_iff.1 ha
  obtain ⟨hi,eb⟩:=List.getElem?_eq_some_iff.1 hb
  rw [List.drop_eq_getElem_cons hk,ea,List.drop_eq_getElem_cons hi,eb] at h
  rw [List.drop_eq_getElem_cons hk,ea]
  cases h with
  | cons _ h=>exact h
  | cons_cons _ _=>exact absurd rfl hne
theorem sub_end {a b:List Int} {k i:Nat} (h:List.Sublist (a.drop k) (b.drop i)) (hk:k≤a.length) (hi:b.length≤i):k = a.length:=by
  rw [List.drop_eq_nil_of_le hi] at h
  have:=List.sublist_nil.1 h
  rw [List.drop_eq_nil_iff] at this
  omega
theorem nx3 (p:Int):nx p 3 = if p = 2 then 1 else 0:=by
  unfold nx
  rw [if_neg (show ¬ (3:Int) = 1 by decide),if_neg (show ¬ (3:Int) = 2 by decide),if_pos rfl]
theorem clr_iff (L:List PodV) (id:Int):(cgC L id 3 = 0) ↔ ownB L id = true:=by
  unfold cgC
  rw [if_neg fun h=>by have:=h.2;omega]
  unfold appC ownB
  by_cases hk:id ∈ keys L
  · rw [if_neg (not_not_intro hk),nx3]
    by_cases h2:(getL L id).h = 2
    · rw [if_pos h2,if_neg (show ¬ (1:Int) = 0 by decide),decide_eq_true h2]
      exact ⟨fun _=>rfl,fun _=>rfl⟩
    · rw [if_neg h2,if_pos rfl,decide_eq_false h2]
      exact ⟨fun h=>absurd h (by decide),fun h=>by cases h⟩
  · rw [if_pos hk,get_none hk]
    exact ⟨fun h=>absurd h (by decide),fun h=>by cases h⟩
theorem clr_own {L:List PodV} (h:LOk L) (id:Int):ownB (cgL L id 3 0) id = false:=by
  by_cases hc:cgC L id 3 = 0
  · have e:cgL L id 3 0 = appL L id 3 (-1) 0:=by unfold cgL;rw [if_pos hc]
    have ha:appC L id 3 = 0:=by
      unfold cgC at hc
      rwa [if_neg fun h=>by have:=h.2;omega] at hc
    have hb:=(clr_iff L id).1 hc
    have h2:(getL L id).h = 2:=of_decide_eq_true hb
    obtain ⟨_,hm,hkk,_⟩:=app_at ha
    have hm2:appP (getL L id) 3 (-1) 0 ∈ appL L id 3 (-1) 0:=by
      unfold appL
      rw [if_pos ha]
      exact List.mem_map.2 ⟨getL L id,hm,if_pos hkk⟩
    have hg:=get_mem (appL_ok h) hm2
    rw [appP_k,hkk] at hg
    unfold ownB
    rw [e,hg,appP_h,h2]
    decide
  · have e:cgL L id 3 0 = L:=by unfold cgL;rw [if_neg hc]
    rw [e]
    cases hb:ownB L id with
    | false=>rfl
    | true=>exact absurd ((clr_iff L id).2 hb) hc
theorem own_not {L:List PodV} (h:LOk L) {id:Int} (hb:ownB L id = false) {p:PodV} {nd:Int} {S:Nat→PodV} {n:Nat} (hS:(T13.lst S n).map nm = seesL p nd L) {j:Nat} (hj:j < n):(S j).k≠id:=by
  intro e
  have h1:nm (S j) ∈ seesL p nd L:=by rw [← hS];exact List.mem_map_of_mem (lst_mem.2 ⟨j,hj,rfl⟩)
  obtain ⟨h2,h3⟩:=List.mem_filter.1 h1
  have h4:=get_mem h h2
  rw [nm_k,e] at h4
  have h5:=(of_decide_eq_true h3).2.1
  unfold ownB at hb
  rw [h4] at hb
  exact of_decide_eq_false hb h5
theorem nil_eq (W:World):(binOp .eql 41 .nilIface .nilIface).run Tryz.prog W = .ok (.bool true) W:=by kernel_rfl
theorem grd_nil (W:World):(eqGuard .eql 41 (.tmp 47) (.const .nilIface) .nilIface .nilIface).run Tryz.prog W = .ok () W:=by kernel_rfl
theorem grd_flt (a b:Int) (W:World):(eqGuard .eql 41 (.tmp 47) (.const .nilIface) (.iface 102 (.agg #[.int .i64 a,.int .i64 b])) .nilIface).run Tryz.prog W = .ok () W:=by kernel_rfl
theorem flt_ne (a b:Int) (W:World):(binOp .eql 41 (.iface 102 (.agg #[.int .i64 a,.int .i64 b])) .nilIface).run Tryz.prog W = .ok (.bool false) W:=by kernel_rfl
end Go.Proofs.YtinndaolcaehiaaGreatDoor.T15

