/-
  The reference's Place: Bind, Claim: the walk.
  The order of pairs; sorted lists of them. No condition, no walk.
-/
import Derived.Test.YtclfbplbccehkaaGreatDoorD13
import Derived.Test.YtclfbplbccehkaaGreatDoorD10
namespace Go.Proofs.YtclfbplbccehkaaGreatDoor.T14
open Go.RowKit Go.Sort Go.Lib V12 T13
set_option maxRecDepth 100000 in
set_option maxHeartbeats 16000000 in
theorem rc_place {w:World} {X:Nat→Prop} {w1:World} (d:Nat) (A:Option Addr) (n c:Nat) (B:Option Addr) (m e:Nat) {P:Nat→PodV} {L:List PodV} {Q:Nat→C14.NdC} {M:List NV}
    (h:RL w X w1 B e m P) (hL:(lst P m).map nm = L) (hN:C14.RdC w1 A n Q) (hM:(C14.lst Q n).map nv = M) (hQ:∀ j,j < n→(Q j).n = d) (ok:Ok d M L) (hd:d≤64) (id nd ev:Int) (hev:ev = 1∨ev = 2) (hnd:I64 nd) (k:Keep w w1) (hX:∀ i,X i→i < w1.heap.size) (hm:m≤100) :
    Calls Tryz.prog 61 #[(⟨d,A,n,c,B,m,e⟩:RcV).val,.int .i64 id,.int .i64 nd,.int .i64 ev] w1 (RcPost w w1 X d A n c (plL M L d id nd ev) (plC M L d id nd ev) (plI M L id nd) id (appP (getL L id) ev nd (-1))):=by
  have mixed:Tryz.prog.follows .mixedOrders = true:=by kernel_rfl
  unfold RcPost
  obtain ⟨W0,hW0⟩:∃ W0,W0 = w1.alloc (.cells (⟨d,A,n,c,B,m,e⟩:RcV).arr 31):=⟨_,rfl⟩
  obtain ⟨W,hW⟩:∃ W,W = W0.alloc (.cells zrc.arr 31):=⟨_,rfl⟩
  obtain ⟨bx,hbx⟩:∃ bx,bx = w1.heap.size:=⟨_,rfl⟩
  obtain ⟨b,hb⟩:∃ b,b = w1.heap.size + 1:=⟨_,rfl⟩
  have s0:W0.heap.size = b:=by rw [hW0,World.size_alloc,hb]
  have KW:Hid (Keep w1 W):=by rw [hW,hW0];exact (Keep.one _ _:Keep w1 _).alloc _
  have BX:Hid (W.heap[bx]? = some (.cells (⟨d,A,n,c,B,m,e⟩:RcV).arr 31 (0,0))):=by show _ = _;rw [hW,hW0,hbx];exact (Keep.one _ _).block (heap_alloc_new _ _)
  have BZ:Hid (W.heap[b]? = some (.cells zrc.arr 31 (0,0))):=by show _ = _;rw [hW,← s0];exact heap_alloc_new _ _
  have hR:=h.rd.keep KW.out
  have cF:=Lib.hid (rfind_fn B m e P id W hR)
  have cK:Hid (Calls Tryz.prog 16 #[(⟨d,A,n,c,B,m,e⟩:RcV).val,.int .i64 nd] W fun e' w'=>e' = .returned (.int .i64 (C14.findN Q nd n))∧Keep W w'):=(rfindN_fn (⟨d,A,n,c,B,m,e⟩:RcV) Q nd W (hN.row.keep KW.out)).mono fun _ _ ⟨he,e2⟩=>⟨he,by rw [e2];exact Keep.one _ _⟩
  have cS:Hid (∀ W',Keep W W'→Calls Tryz.prog 92 #[.slice B m e,.int .i64 id,.int .i64 ev,.int .i64 nd,.int .i64 (-1)] W' fun e' w'=>∃ B' c' n' P',e' = .returned (.tuple #[.slice B' n' c',.int .i64 (appC L id ev)])∧Keep W w'∧RL w (fun i=>X i∨(W.heap.size≤i∧i < w'.heap.size)) w' B' c' n' P'∧(lst P' n').map nm = appL L id ev nd (-1)∧(appC L id ev = 0→∃ t,t < n'∧findN P' id n' = (t:Int)∧nm (P' t) = appP (getL L id) ev nd (-1))):=fun W' k2=>(rl_app (h.keep (KW.out.trans k2)) hL ok.lok id ev nd (-1) hnd (by unfold I64;omega) (by omega)).mono fun _ _ ⟨B',c',n',P',he,k3,rl,r3,r4⟩=>⟨B',c',n',P',he,k2.trans k3,rl.less fun i hi=>hi.imp_right fun hh=>⟨Nat.le_trans k2.size hh.1,hh.2⟩,r3,r4⟩
  have cFin:Hid (∀ W',Keep W W'→W'.cell? ⟨bx,0,none⟩ = some (.int .i64 d)∧W'.cell? ⟨bx,1,none⟩ = some (.slice A n c)∧W'.cell? ⟨bx,2,none⟩ = some (.slice B m e)∧(∀ i,W'.frozen? ⟨bx,i,none⟩ = false)∧W'.cell? ⟨b,0,none⟩ = some (.int .i64 0)∧W'.cell? ⟨b,1,none⟩ = some (.slice none 0 0)∧W'.cell? ⟨b,2,none⟩ = some (.slice none 0 0)∧(∀ i,W'.frozen? ⟨b,i,none⟩ = false)):=fun W' k2=>by
    obtain ⟨c0,c1,c2,cf⟩:=rc_cells (k2.block BX.out)
    obtain ⟨z0,z1,z2,zf⟩:=rc_cells (k2.block BZ.out)
    exact ⟨c0,c1,c2,cf,z0,z1,z2,zf⟩
  have fin:Hid (∀ W',Keep W W'→(put3 W' b ⟨d,A,n,c,B,m,e⟩).heap[b]? = some (.cells (⟨d,A,n,c,B,m,e⟩:RcV).arr 31 (0,0))∧Keep w1 (put3 W' b ⟨d,A,n,c,B,m,e⟩)∧RL w (fun i=>X i∨(w1.heap.size≤i∧i < (put3 W' b ⟨d,A,n,c,B,m,e⟩).heap.size)) (put3 W' b ⟨d,A,n,c,B,m,e⟩) B e m P):=fun W' k2=>rc_same h (KW.out.trans k2) (by omega) (k2.block BZ.out)
  have nochg:Hid (∀ cd,plC M L d id nd ev = cd→cd≠0→plL M L d id nd ev = (lst P m).map nm):=fun cd h1 h2=>by
    unfold plL
    rw [if_neg (by rw [h1];exact h2)]
    exact hL.symm
  obtain ⟨c0,c1,c2,cf,z0,z1,z2,zf⟩:=cFin.out W (Keep.refl W)
  have h':=Lib.hid h
  have hL':=Lib.hid hL
  have hX':=Lib.hid hX
  have k':=Lib.hid k
  have hM':=Lib.hid hM
  have hN':=Lib.hid hN
  have hQ':=Lib.hid hQ
  have ok':=Lib.hid ok
  have hR':=Lib.hid hR
  simp only [RcV.arr] at hW0
  simp only [RcV.arr,zrc] at hW
  have c2e:=c2
  rw [hW,hW0] at c2e
  simp only [RcV.val] at cK ⊢
  clear h hL hX k hN hQ hR
  by_cases hk:id ∈ keys L
  · obtain ⟨j,hj,hfj,hget⟩:=pod_at hL'.out ok'.out.lok hk
    rw [hfj] at cF
    have hfj':=Lib.hid hfj
    replace hfj:=Lib.hid hfj
    have hget':=Lib.hid hget
    replace hget:=Lib.hid hget
    by_cases hn:nd ∈ nk M
    · obtain ⟨i,hi,hfi,hgn⟩:=node_at hM'.out ok'.out.srt hn
      rw [hfi] at cK
      replace hfi:=Lib.hid hfi
      replace hgn:=Lib.hid hgn
      obtain ⟨gp,off,hBB,ca⟩:=hR'.out.adr (by omega)
      subst hBB
      have q9:=pods_at gp off m e j hj
      have y4:=Lib.hid (ca j hj).e4
      have y6:=Lib.hid (ca j hj).e6
      clear ca
      have hph:Hid ((getL L id).h = (P j).h):=by show _ = _;rw [hget.out];rfl
      obtain ⟨ph,hp⟩:∃ ph,ph = (P j).h:=⟨_,rfl⟩
      rw [← hp] at y6 hph
      replace hp:=Lib.hid hp
      have cN:=Lib.hid (fun W'=>rnext_fn ph ev W')
      have hi1:plI M L id nd = 0:=if_neg fun hh=>hh.2 hn
      by_cases hx:nx ph ev = 0
      · have hc:plC M L d id nd ev = 8:=by
          unfold plC
          rw [if_neg (not_not_intro hk),if_neg (not_not_intro hn),hph.out,if_pos hx]
        have no:=Lib.hid (nochg.out 8 hc (by decide))
        rw [hc,hi1]
        replace hc:=Lib.hid hc
        replace hi1:=Lib.hid hi1
        replace hk:=Lib.hid hk
        replace hn:=Lib.hid hn
        go_enter Tryz.func61,Tryz.ntmps61
        go_wp2_with fail
        clear c2e
        rw [← hW0,← hW,← hb]
        try rw [← hbx]
        replace hW0:=Lib.hid hW0
        replace hW:=Lib.hid hW
        replace hb:=Lib.hid hb
        replace hbx:=Lib.hid hbx
        replace s0:=Lib.hid s0
        refine cF.out.mono ?_
        rintro e' w2 ⟨rfl,rfl⟩
        go_wp2_with fail
        refine cK.out.mono ?_
        rintro e' w3 ⟨rfl,k3⟩
        replace k3:=Lib.hid k3
        clear c0 c1 c2 cf z0 z1 z2 zf
        obtain ⟨c0,c1,c2,cf,z0,z1,z2,zf⟩:=cFin.out w3 k3.out
        have x6:=k3.out.cell y6.out
        have x4:=k3.out.cell y4.out
        go_wp2_with fail
        refine (cN.out _).mono ?_
        rintro e' w4 ⟨rfl,rfl⟩
        rw [hx]
        replace hx:=Lib.hid hx
        go_wp2
        obtain ⟨q1,q2,q3⟩:=fin.out w3 k3.out
        obtain ⟨e0,e1,e2,_⟩:=rc_cells q1
        simp only [put3] at *
        refine bodyPost_ret (v:=.tuple #[.agg #[.int .i64 d,.slice (A) n c,.slice (some ⟨gp,off,none⟩) m e],.int .i64 8,.int .i64 0]) (by simp [results,Tryz.results61,go_sem,e0,e1,e2]) rfl ⟨some ⟨gp,off,none⟩,e,m,P,rfl,q2,q3,no.out.symm,fun h0=>absurd h0 (by decide)⟩
      · have happ:Hid (appC L id ev = 0):=by
          show _ = _
          unfold appC
          rw [if_neg (not_not_intro hk),hph.out,if_neg hx]
        have hpl:Hid (plC M L d id nd ev = if ev = 1∧fitU M L d id nd = false then 10 else 0):=by
          show _ = _
          unfold plC
          rw [if_neg (not_not_intro hk),if_neg (not_not_intro hn),hph.out,if_neg hx]
        have hreq:∀ t,t < m→(P t).m = d∧∀ k,k < d→Amt ((P t).Z k):=fun t ht=>ok'.out.req (nm (P t)) (by rw [← hL'.out];exact List.mem_map_of_mem (lst_mem.2 ⟨t,ht,rfl⟩))
        have rq:=hreq j hj
        have hlen:L.length = m:=by rw [← hL'.out,List.length_map,lst_len]
        have hU:usedL L nd = usedL (lst P m) nd:=by
          funext t
          rw [← hL'.out,used_nm]
        obtain ⟨U,hUU⟩:∃ U,U = usedL L nd:=⟨_,rfl⟩
        have ub:∀ t,t < d→0≤U t∧U t≤109951162777600:=fun t ht=>by
          rw [hUU]
          refine ⟨usedL_lo (ok'.out.amtL ht),?_⟩
          have:=usedL_hi (id:=nd) (ok'.out.amtL ht)
          omega
        have cU:Hid (∀ W',Keep W W'→Calls Tryz.prog 37 #[.agg #[.int .i64 d,.slice A n c,.slice (some ⟨gp,off,none⟩) m e],.int .i64 nd] W' fun e' w'=>∃ g,e' = .returned (.slice (some ⟨g,0,none⟩) d d)∧Rd w' (some ⟨g,0,none⟩) d U∧Keep W w'∧Keep W' w'):=fun W' k2=>(rused_fn (⟨d,A,n,c,some ⟨gp,off,none⟩,m,e⟩:RcV) d rfl hd P nd W' (hR'.out.keep k2) hm hreq).mono fun _ _ ⟨g,he,_,hr,k3⟩=>⟨g,he,by rw [hUU,hU];rw [hUU,hU] at ub;exact (show IntRow _ g d (usedL (lst P m) nd) from hr).rd (by omega) fun t ht=>⟨by have:=ub t ht;omega,by have:=ub t ht;omega⟩,k2.trans k3,k3⟩
        have yr:=(hR'.out.is j hj).rd
        rw [rq.1] at yr
        obtain ⟨pA,hpA⟩:∃ pA,pA = (P j).A:=⟨_,rfl⟩
        obtain ⟨pc,hpc⟩:∃ pc,pc = (P j).c:=⟨_,rfl⟩
        obtain ⟨S,hS⟩:∃ S:Nat→Int,S = fun t=>U t + (P j).Z t:=⟨_,rfl⟩
        rw [rq.1,← hpA,← hpc] at y4
        rw [← hpA] at yr
        have sb:∀ t,t < d→-9223372036854775808≤U t + (P j).Z t∧U t + (P j).Z t≤9223372036854775807:=fun t ht=>by
          have h1:=ub t ht
          have h2:=rq.2 t ht
          unfold Amt at h2
          omega
        have cA:Hid (∀ W' G b',Rd W' G d U→Keep W W'→W'.heap[b']? = some (.cells #[.slice G d d,.slice pA d pc] 24 (0,0))→Calls Tryz.prog 24 #[.slice (some ⟨b',0,none⟩) 2 2] W' fun e' w'=>∃ G' c',e' = .returned (.tuple #[.slice G' d c',.bool true])∧Rd w' G' d S∧Keep W w'):=fun W' G b' hu k2 hb'=>(radd2_fn W' b' d d pc G pA U (P j).Z hb' hu (yr.keep k2) (by omega) sb).mono fun _ _ ⟨G',c',he,hr,k3⟩=>⟨G',c',he,by rw [hS];exact hr,k2.trans k3⟩
        obtain ⟨gn,of2,hAA,cn⟩:=hN'.out.row.adr (by omega)
        subst hAA
        have q2:=C14.atN gn of2 n c i hi
        have n1:=(cn i hi).e1
        have nr:=hN'.out.rd i hi
        rw [hQ'.out i hi] at n1 nr
        obtain ⟨nA,hnA⟩:∃ nA,nA = (Q i).A:=⟨_,rfl⟩
        obtain ⟨nc,hnc⟩:∃ nc,nc = (Q i).c:=⟨_,rfl⟩
        rw [← hnA,← hnc] at n1
        rw [← hnA] at nr
        have n1:=Lib.hid n1
        obtain ⟨f,hf⟩:∃ f,f = fitU M L d id nd:=⟨_,rfl⟩
        rw [← hf] at hpl
        have hff:fitsB d S d (Q i).C = f:=by
          rw [hf,hS]
          refine fit_is hUU ?_ ?_
          · rw [hget.out];rfl
          · rw [hgn.out];rfl
        have cFit:Hid (∀ W' G' c',Rd W' G' d S→Keep W W'→Calls Tryz.prog 21 #[.slice G' d c',.slice nA d nc] W' fun e' w'=>e' = .returned (.bool f)∧Keep W w'):=fun W' G' c' hu k2=>(rfits_any G' nA d d c' nc S (Q i).C W' hu (nr.keep (KW.out.trans k2))).mono fun _ _ ⟨he,k3⟩=>⟨by rw [← hff];exact he,k2.trans k3.keep⟩
        clear cn hreq yr nr sb ub hlen
        replace hUU:=Lib.hid hUU
        replace hU:=Lib.hid hU
        replace hpA:=Lib.hid hpA
        replace hpc:=Lib.hid hpc
        replace hS:=Lib.hid hS
        replace hnA:=Lib.hid hnA
        replace hnc:=Lib.hid hnc
        replace hf:=Lib.hid hf
        replace hff:=Lib.hid hff
        replace rq:=Lib.hid rq
        rw [hi1]
        replace hi1:=Lib.hid hi1
        replace hk:=Lib.hid hk
        replace hn:=Lib.hid hn
        replace hev:=Lib.hid hev
        obtain ⟨nxv,hnxv⟩:∃ v,v = nx ph ev:=⟨_,rfl⟩
        rw [← hnxv] at hx
        have cN:Hid (∀ W',Calls Tryz.prog 91 #[.int .i64 ph,.int .i64 ev] W' fun e' w'=>e' = .returned (.int .i64 nxv)∧W' = w'):=fun W'=>by rw [hnxv];exact cN.out W'
        replace hnxv:=Lib.hid hnxv
        have hxb:(nxv == 0) = false:=by simpa using hx
        go_enter Tryz.func61,Tryz.ntmps61
        go_wp2_with fail
        clear c2e
        rw [← hW0,← hW,← hb]
        try rw [← hbx]
        replace hW0:=Lib.hid hW0
        replace hW:=Lib.hid hW
        replace hb:=Lib.hid hb
        replace hbx:=Lib.hid hbx
        replace s0:=Lib.hid s0
        refine cF.out.mono ?_
        rintro e' w2 ⟨rfl,rfl⟩
        go_wp2_with fail
        refine cK.out.mono ?_
        rintro e' w3 ⟨rfl,k3⟩
        replace k3:=Lib.hid k3
        clear c0 c1 c2 cf z0 z1 z2 zf
        obtain ⟨c0,c1,c2,cf,z0,z1,z2,zf⟩:=cFin.out w3 k3.out
        have x6:=k3.out.cell y6.out
        have x4:=k3.out.cell y4.out
        go_wp2_with fail
        refine (cN.out _).mono ?_
        rintro e' w4 ⟨rfl,rfl⟩
        go_wp2_with fail
        go_region_held3 (fun w'=>w'.cell? ⟨bx,0,none⟩ = some (.int .i64 d)∧w'.cell? ⟨bx,1,none⟩ = some (.slice (some ⟨gn,of2,none⟩) n c)∧w'.cell? ⟨bx,2,none⟩ = some (.slice (some ⟨gp,off,none⟩) m e)∧w'.cell? ⟨gp,off + j * 9 + 4,none⟩ = some (.slice pA d pc))
          (first
            | ((refine (fun (KK:Keep W _)=>⟨(cFin.out _ KK).1,(cFin.out _ KK).2.1,(cFin.out _ KK).2.2.1,KK.cell y4.out⟩) ?_;repeat (with_reducible first | exact K7.out | exact K6.out | exact k3.out | apply Keep.drew | apply Keep.drewN | (refine Keep.alloc ?_ _)));done))
          (first
            | (go_at_call 37;refine (cU.out _ (by repeat (with_reducible first | exact k3.out | apply Keep.drew | apply Keep.drewN))).mono ?_;rintro e' w6 ⟨g6,rfl,R6,K6,k6⟩;replace R6:=Lib.hid R6;replace K6:=Lib.hid K6;replace k6:=Lib.hid k6)
            | (go_at_call 24;refine (cA.out _ _ _ (R6.out.keep (by repeat (with_reducible first | exact Keep.refl w6 | apply Keep.drew | apply Keep.drewN | (refine Keep.alloc ?_ _)))) (by repeat (with_reducible first | exact K6.out | apply Keep.drew | apply Keep.drewN | (refine Keep.alloc ?_ _))) (by exact heap_alloc_new _ _)).mono ?_;rintro e' w7 ⟨G7,c7,rfl,R7,K7⟩;replace R7:=Lib.hid R7;replace K7:=Lib.hid K7))
        all_goals
          clear c0 c1 c2 cf z0 z1 z2 zf x4 x6
          obtain ⟨c0,c1,c2,cf,z0,z1,z2,zf⟩:=cFin.out w7 K7.out
          have x1:=(KW.out.trans K7.out).cell n1.out
          rcases hev.out with rfl | rfl
          · go_wp2_with fail
            refine (cFit.out w7 G7 c7 R7.out K7.out).mono ?_
            rintro e' w8 ⟨rfl,K8⟩
            replace K8:=Lib.hid K8
            clear c0 c1 c2 cf z0 z1 z2 zf
            obtain ⟨c0,c1,c2,cf,z0,z1,z2,zf⟩:=cFin.out w8 K8.out
            cases f with
            | true =>
              have hcd:Hid (plC M L d id nd 1 = 0):=by show _ = _;rw [hpl.out];simp
              go_wp2_with fail
              clear c0 c1 c2 cf z0 z1 z2 zf
              refine (cS.out w8 K8.out).mono ?_
              rintro e' w9 ⟨B',c',n',P',rfl,k9,rl,hl,ht⟩
              obtain ⟨F1,F2,F3⟩:=rc_fin (d:=d) (A:=some ⟨gn,of2,none⟩) (n:=n) (c:=c) (bx:=bx) (b:=b) k'.out KW.out (by have:=hbx.out;omega) (by have:=hb.out;omega) (by have:=hb.out;have:=hbx.out;omega) (lt_of_block BX.out) (lt_of_block BZ.out) hX'.out k9 (k9.block BZ.out) rl
              obtain ⟨c0,c1,c2,cf,z0,z1,z2,zf⟩:=cFin.out w9 k9
              have F1:=Lib.hid F1
              have F2:=Lib.hid F2
              have F3:=Lib.hid F3
              have hne:bx≠b:=by have:=hb.out;have:=hbx.out;omega
              replace rl:=Lib.hid rl
              replace hl:=Lib.hid hl
              replace ht:=Lib.hid ht
              replace k9:=Lib.hid k9
              go_wp2
              obtain ⟨e0,e1,e2,_⟩:=rc_cells F1.out
              simp only [put3] at *
              refine bodyPost_ret (v:=.tuple #[.agg #[.int .i64 d,.slice (some ⟨gn,of2,none⟩) n c,.slice B' n' c'],.int .i64 0,.int .i64 0]) (by simp [results,Tryz.results61,go_sem,e0,e1,e2]) rfl ⟨B',c',n',P',by rw [hcd.out],F2.out,F3.out,?_,fun _=>ht.out happ.out⟩
              unfold plL
              rw [if_pos hcd.out]
              exact hl.out
            | false =>
              have hcd:Hid (plC M L d id nd 1 = 10):=by show _ = _;rw [hpl.out];simp
              go_wp2
              obtain ⟨q1,q2,q3⟩:=fin.out w8 K8.out
              obtain ⟨e0,e1,e2,_⟩:=rc_cells q1
              simp only [put3] at *
              refine bodyPost_ret (v:=.tuple #[.agg #[.int .i64 d,.slice (some ⟨gn,of2,none⟩) n c,.slice (some ⟨gp,off,none⟩) m e],.int .i64 10,.int .i64 0]) (by simp [results,Tryz.results61,go_sem,e0,e1,e2]) rfl ⟨some ⟨gp,off,none⟩,e,m,P,by rw [hcd.out],q2,q3,(nochg.out 10 hcd.out (by decide)).symm,fun h0=>absurd (hcd.out.symm.trans h0) (by decide)⟩
          · have hcd:Hid (plC M L d id nd 2 = 0):=by show _ = _;rw [hpl.out];simp
            go_wp2_with fail
            clear c0 c1 c2 cf z0 z1 z2 zf
            refine (cS.out w7 K7.out).mono ?_
            rintro e' w9 ⟨B',c',n',P',rfl,k9,rl,hl,ht⟩
            obtain ⟨F1,F2,F3⟩:=rc_fin (d:=d) (A:=some ⟨gn,of2,none⟩) (n:=n) (c:=c) (bx:=bx) (b:=b) k'.out KW.out (by have:=hbx.out;omega) (by have:=hb.out;omega) (by have:=hb.out;have:=hbx.out;omega) (lt_of_block BX.out) (lt_of_block BZ.out) hX'.out k9 (k9.block BZ.out) rl
            obtain ⟨c0,c1,c2,cf,z0,z1,z2,zf⟩:=cFin.out w9 k9
            have F1:=Lib.hid F1
            have F2:=Lib.hid F2
            have F3:=Lib.hid F3
            have hne:bx≠b:=by have:=hb.out;have:=hbx.out;omega
            replace rl:=Lib.hid rl
            replace hl:=Lib.hid hl
            replace ht:=Lib.hid ht
            replace k9:=Lib.hid k9
            go_wp2
            obtain ⟨e0,e1,e2,_⟩:=rc_cells F1.out
            simp only [put3] at *
            refine bodyPost_ret (v:=.tuple #[.agg #[.int .i64 d,.slice (some ⟨gn,of2,none⟩) n c,.slice B' n' c'],.int .i64 0,.int .i64 0]) (by simp [results,Tryz.results61,go_sem,e0,e1,e2]) rfl ⟨B',c',n',P',by rw [hcd.out],F2.out,F3.out,?_,fun _=>ht.out happ.out⟩
            unfold plL
            rw [if_pos hcd.out]
            exact hl.out
    · have hc:plC M L d id nd ev = 5:=by
        unfold plC
        rw [if_neg (not_not_intro hk),if_pos hn]
      have hi1:plI M L id nd = 1:=if_pos ⟨hk,hn⟩
      have no:=Lib.hid (nochg.out 5 hc (by decide))
      rw [hc,hi1]
      have hr0:=node_no hM'.out hn
      obtain ⟨r,hr⟩:∃ r,r = C14.findN Q nd n:=⟨_,rfl⟩
      rw [← hr] at cK hr0
      replace hr:=Lib.hid hr
      replace hc:=Lib.hid hc
      replace hi1:=Lib.hid hi1
      replace hk:=Lib.hid hk
      replace hn:=Lib.hid hn
      go_enter Tryz.func61,Tryz.ntmps61
      go_wp2_with fail
      clear c2e
      rw [← hW0,← hW,← hb]
      try rw [← hbx]
      replace hW0:=Lib.hid hW0
      replace hW:=Lib.hid hW
      replace hb:=Lib.hid hb
      replace hbx:=Lib.hid hbx
      replace s0:=Lib.hid s0
      refine cF.out.mono ?_
      rintro e' w2 ⟨rfl,rfl⟩
      go_wp2_with fail
      refine cK.out.mono ?_
      rintro e' w3 ⟨rfl,k3⟩
      replace k3:=Lib.hid k3
      clear c0 c1 c2 cf z0 z1 z2 zf
      obtain ⟨c0,c1,c2,cf,z0,z1,z2,zf⟩:=cFin.out w3 k3.out
      go_wp2
      obtain ⟨q1,q2,q3⟩:=fin.out w3 k3.out
      obtain ⟨e0,e1,e2,_⟩:=rc_cells q1
      simp only [put3] at *
      refine bodyPost_ret (v:=.tuple #[.agg #[.int .i64 d,.slice (A) n c,.slice (B) m e],.int .i64 5,.int .i64 1]) (by simp [results,Tryz.results61,go_sem,e0,e1,e2]) rfl ⟨B,e,m,P,rfl,q2,q3,no.out.symm,fun h0=>absurd h0 (by decide)⟩
  · have hc:plC M L d id nd ev = 5:=if_pos hk
    have hi1:plI M L id nd = 0:=if_neg fun hh=>hk hh.1
    have no:=Lib.hid (nochg.out 5 hc (by decide))
    rw [hc,hi1]
    have hr0:=pod_no hL'.out hk
    obtain ⟨r,hr⟩:∃ r,r = findN P id m:=⟨_,rfl⟩
    rw [← hr] at cF hr0
    replace hr:=Lib.hid hr
    replace hc:=Lib.hid hc
    replace hi1:=Lib.hid hi1
    replace hk:=Lib.hid hk
    go_enter Tryz.func61,Tryz.ntmps61
    go_wp2_with fail
    clear c2e
    rw [← hW0,← hW,← hb]
    try rw [← hbx]
    replace hW0:=Lib.hid hW0
    replace hW:=Lib.hid hW
    replace hb:=Lib.hid hb
    replace hbx:=Lib.hid hbx
    replace s0:=Lib.hid s0
    refine cF.out.mono ?_
    rintro e' w2 ⟨rfl,rfl⟩
    go_wp2
    obtain ⟨q1,q2,q3⟩:=fin.out W (Keep.refl W)
    obtain ⟨e0,e1,e2,_⟩:=rc_cells q1
    simp only [put3] at *
    refine bodyPost_ret (v:=.tuple #[.agg #[.int .i64 d,.slice (A) n c,.slice (B) m e],.int .i64 5,.int .i64 0]) (by simp [results,Tryz.results61,go_sem,e0,e1,e2]) rfl ⟨B,e,m,P,rfl,q2,q3,no.out.symm,fun h0=>absurd h0 (by decide)⟩
end Go.Proofs.YtclfbplbccehkaaGreatDoor.T14

namespace Go.Proofs.YtclfbplbccehkaaGreatDoor.C14
open Go.RowKit Go.Lib V12
def befN (x y:NdC):Bool:=decide (x.k < y.k)
theorem bef_iff (x y:NdC):befN x y = true ↔ x.k < y.k:=by unfold befN;rw [decide_eq_true_eq]
theorem bef_no (x y:NdC):befN x y = false ↔ ¬ x.k < y.k:=by unfold befN;rw [decide_eq_false_iff_not]
theorem bef_trans {x y z:NdC} (h:befN x y = true) (k:befN y z = true):befN x z = true:=by rw [bef_iff] at *;omega
theorem bef_total {x y:NdC} (h:x.k≠y.k) (k:befN x y = false):befN y x = true:=by rw [bef_no] at k;rw [bef_iff];omega
def Srt (L:List NdC):Prop:=L.Pairwise fun x y=>befN x y = true
def insL (x:NdC):List NdC→List NdC
  | []=>[x]
  | y :: L=>if befN x y = true then x :: y :: L else y :: insL x L
theorem ins_perm (x:NdC):∀ L,(insL x L).Perm (x :: L)
  | []=>List.Perm.refl _
  | y :: L=>by
    unfold insL
    split
    · exact List.Perm.refl _
    · exact ((ins_perm x L).cons y).trans (List.Perm.swap x y L)
theorem ins_mem {x y:NdC} {L:List NdC}:y ∈ insL x L ↔ y = x∨y ∈ L:=by rw [(ins_perm x L).mem_iff,List.mem_cons]
theorem ins_sorted {x:NdC}:∀ {L},Srt L→x.k ∉ keys L→Srt (insL x L)
  | [],_,_=>List.pairwise_singleton _ _
  | y :: L,h,hk=>by
    have h':=h
    unfold Srt at h'
    rw [List.pairwise_cons] at h'
    have hk2:x.k≠y.k∧x.k ∉ keys L:=by unfold keys at hk ⊢;rw [List.map_cons,List.mem_cons,not_or] at hk;exact hk
    unfold insL
    split
    · rename_i hb
      unfold Srt
      rw [List.pairwise_cons]
      refine ⟨fun z hz=>?_,h⟩
      rcases List.mem_cons.1 hz with rfl | hz
      · exact hb
      · exact bef_trans hb (h'.1 z hz)
    · rename_i hb
      unfold Srt
      rw [List.pairwise_cons]
      refine ⟨fun z hz=>?_,ins_sorted h'.2 hk2.2⟩
      rcases ins_mem.1 hz with rfl | hz
      · exact bef_total hk2.1 (by cases e:befN z y <;> simp_all)
      · exact h'.1 z hz
theorem ins_len (x:NdC) (L:List NdC):(insL x L).length = L.length + 1:=by rw [(ins_perm x L).length_eq];rfl
theorem ins_keys {x:NdC} {L:List NdC} (h:(keys L).Nodup) (hk:x.k ∉ keys L):(keys (insL x L)).Nodup:=by
  have:(keys (insL x L)).Perm (x.k :: keys L):=(ins_perm x L).map _
  rw [this.nodup_iff,List.nodup_cons]
  exact ⟨hk,h⟩
theorem ins_form {x:NdC}:∀ {L:List NdC} {i:Nat},Srt L→i≤L.length→(∀ j y,i≤j→L[j]? = some y→befN x y = true)→(∀ y,0 < i→L[i - 1]? = some y→befN x y = false)→L.take i ++ [x] ++ L.drop i = insL x L
  | [],i,_,hi,_,_=>by
    obtain rfl:i = 0:=by simpa using hi
    rfl
  | y :: L,0,_,_,h1,_=>by
    unfold insL
    rw [if_pos (h1 0 y (Nat.le_refl _) rfl)]
    rfl
  | y :: L,i + 1,hs,hi,h1,h2=>by
    have hs':=hs
    unfold Srt at hs'
    rw [List.pairwise_cons] at hs'
    have hy:befN x y = false:=by
      cases i with
      | zero=>exact h2 y (by omega) rfl
      | succ i =>
        have hl:i < L.length:=by simp at hi;omega
        have h3:=h2 L[i] (by omega) (by simp [List.getElem?_eq_getElem hl])
        cases e:befN x y with
        | false=>rfl
        | true =>
          rw [bef_trans e (hs'.1 _ (List.getElem_mem hl))] at h3
          exact absurd h3 (by decide)
    unfold insL
    rw [if_neg (by rw [hy];decide),← ins_form (i:=i) hs'.2 (by simp at hi;omega) (fun j z hj hz=>h1 (j + 1) z (by omega) (by simpa using hz)) (fun z hz e=>h2 z (by omega) (by
      obtain ⟨i',rfl⟩:∃ i',i = i' + 1:=⟨i - 1,by omega⟩
      simpa using e))]
    rfl
theorem get_none {L:List NdC} {id:Int} (h:id ∉ keys L):getL L id = zp:=by
  unfold getL
  rw [List.find?_eq_none.2 fun y hy=>by simpa using fun e=>h (by rw [← e];exact List.mem_map_of_mem hy)]
  rfl
theorem get_some {L:List NdC} {id:Int} (h:id ∈ keys L):getL L id ∈ L∧(getL L id).k = id:=by
  obtain ⟨y,hy,e⟩:=List.mem_map.1 h
  unfold getL
  cases hf:L.find? fun y=>decide (y.k = id) with
  | none=>exact absurd (List.find?_eq_none.1 hf y hy) (by simpa using e)
  | some z=>exact ⟨List.mem_of_find?_eq_some hf,by simpa using List.find?_some hf⟩
theorem rnCs_flat (Q:Nat→NdC):∀ n,rnCs Q n = (lst Q n).flatMap NdC.cells
  | 0=>rfl
  | n + 1=>by rw [rnCs,rnCs_flat Q n,lst_succ,List.flatMap_append,List.flatMap_singleton]
theorem lst_take (Q:Nat→NdC) {n i:Nat} (h:i≤n):(lst Q n).take i = lst Q i:=by
  refine List.ext_getElem? fun j=>?_
  rw [List.getElem?_take]
  split
  · rw [lst_get (by omega),lst_get (by assumption)]
  · rw [List.getElem?_eq_none (by rw [lst_len];omega)]
theorem lst_drop (Q:Nat→NdC) (n i:Nat):(lst Q n).drop i = lst (fun t=>Q (i + t)) (n - i):=by
  refine List.ext_getElem? fun j=>?_
  rw [List.getElem?_drop]
  by_cases h:i + j < n
  · rw [lst_get h,lst_get (by omega)]
  · rw [List.getElem?_eq_none (by rw [lst_len];omega),List.getElem?_eq_none (by rw [lst_len];omega)]
theorem rnCs_row (L:List NdC):rnCs (row L) L.length = L.flatMap NdC.cells:=by rw [rnCs_flat,lst_row]
theorem ins_row {P:Nat→NdC} {n i:Nat} {x:NdC} (hi:i≤n) (hs:Srt (lst P n)) (h1:∀ j,i≤j→j < n→befN x (P j) = true) (h2:i = 0∨befN x (P (i - 1)) = false) :
    rnCs P i ++ x.cells ++ rnCs (fun t=>P (i + t)) (n - i) = rnCs (row (insL x (lst P n))) (n + 1):=by
  have hl:(insL x (lst P n)).length = n + 1:=by rw [ins_len,lst_len]
  rw [← hl,rnCs_row,← ins_form (i:=i) hs (by rw [lst_len];exact hi) (fun j y hj e=>by
    have hj2:j < n:=by have:=(List.getElem?_eq_some_iff.1 e).1;rwa [lst_len] at this
    rw [lst_get hj2] at e
    rw [← Option.some.inj e]
    exact h1 j hj hj2) (fun y hi0 e=>by
    rw [lst_get (by omega)] at e
    rw [← Option.some.inj e]
    exact h2.resolve_left (by omega)),lst_take _ hi,lst_drop,List.flatMap_append,List.flatMap_append,rnCs_flat,rnCs_flat,List.flatMap_singleton]
def repL (L:List NdC) (x:NdC):List NdC:=L.map fun y=>if y.k = x.k then x else y
theorem rep_keys (L:List NdC) (x:NdC):keys (repL L x) = keys L:=by
  unfold keys repL
  rw [List.map_map]
  refine List.map_congr_left fun y _=>?_
  show (if y.k = x.k then x else y).k = y.k
  split
  · exact Eq.symm (by assumption)
  · rfl
theorem srt_keys {L:List NdC}:Srt L ↔ (keys L).Pairwise (· < ·):=by
  unfold Srt keys
  rw [List.pairwise_map]
  exact ⟨fun h=>h.imp fun h=>(bef_iff _ _).1 h,fun h=>h.imp fun h=>(bef_iff _ _).2 h⟩
theorem rep_sorted {L:List NdC} {x:NdC} (h:Srt L):Srt (repL L x):=by rw [srt_keys,rep_keys,← srt_keys];exact h
theorem keys_nodup {L:List NdC} (h:Srt L):(keys L).Nodup:=by
  rw [srt_keys] at h
  exact h.imp fun h=>Int.ne_of_lt h
theorem rep_mem {L:List NdC} {x y:NdC} (h:y ∈ repL L x):y ∈ L∨y = x:=by
  unfold repL at h
  obtain ⟨z,hz,rfl⟩:=List.mem_map.1 h
  split
  · exact Or.inr rfl
  · exact Or.inl hz
end Go.Proofs.YtclfbplbccehkaaGreatDoor.C14

