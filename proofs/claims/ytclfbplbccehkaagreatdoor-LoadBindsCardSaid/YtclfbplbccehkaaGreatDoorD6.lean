/-
  A cluster as lists: its nodes with their capacities, its pods; what its operations do to them. No condition, no walk.
  What the laws ask of the pods' functions; the reference's list beside them. No condition, no walk.
-/
import Derived.Test.YtclfbplbccehkaaGreatDoorD5
import Derived.Test.YtclfbplbccehkaaGreatDoorD2
namespace Go.Proofs.YtclfbplbccehkaaGreatDoor.T14
open Go.RowKit Go.Sort Go.Lib V12 T13
structure NV where
  k:Int
  C:Nat→Int
def zv:NV:=⟨0,fun _=>0⟩
abbrev nk (M:List NV):List Int:=G.keys NV.k M
abbrev nget (M:List NV) (id:Int):NV:=G.get NV.k zv M id
def holds (id:Int) (y:PodV):Bool:=decide (y.d = id∧(y.h = 3∨y.h = 4))
def heldZ (id:Int) (j:Nat) (y:PodV):Int:=if holds id y = true then y.Z j else 0
def usedL:List PodV→Int→Nat→Int
  | [],_,_=>0
  | y :: L,id,j=>heldZ id j y + usedL L id j
def Amt (z:Int):Prop:=0≤z∧z≤1099511627776
theorem wrong_no {n:Nat} {Z:Nat→Int} {d:Nat} (h:¬ 0≤wrongOf n Z d):n = d∧∀ j,j < n→Amt (Z j):=by
  rcases bad_or n Z with ⟨k,hk,hb,hj⟩ | hg
  · rw [wrongOf_bad hk hb hj] at h
    omega
  · rw [wrongOf_ok hg] at h
    refine ⟨?_,fun j hj=>bad_not (hg j hj)⟩
    by_cases e:(n:Int) = (d:Int)
    · omega
    · rw [if_neg e] at h
      omega
def adC (M:List NV) (d:Nat) (k:Int) (n:Nat) (Z:Nat→Int):Int:=if 0≤wrongOf n Z d then 3 else if k ∈ nk M then 6 else if 1024≤M.length then 7 else 0
def wrI (d n:Nat) (Z:Nat→Int):Int:=if 0≤wrongOf n Z d then wrongOf n Z d else 0
def adL (M:List NV) (d:Nat) (k:Int) (n:Nat) (Z:Nat→Int):List NV:=if adC M d k n Z = 0 then G.ins NV.k ⟨k,Z⟩ M else M
def sbC (L:List PodV) (d:Nat) (x:PodV):Int:=if 0≤wrongOf x.m x.Z d then 3 else subC L 65536 x
def sbL (L:List PodV) (d:Nat) (x:PodV):List PodV:=if 0≤wrongOf x.m x.Z d then L else subL L 65536 x
def fitU (M:List NV) (L:List PodV) (d:Nat) (id nd:Int):Bool:=(List.range d).all fun j=>decide (usedL L nd j + (getL L id).Z j≤(nget M nd).C j)
theorem fitU_iff {M:List NV} {L:List PodV} {d:Nat} {id nd:Int}:fitU M L d id nd = true ↔ ∀ j,j < d→usedL L nd j + (getL L id).Z j≤(nget M nd).C j:=by
  unfold fitU
  rw [List.all_eq_true]
  simp only [List.mem_range,decide_eq_true_eq]
def plC (M:List NV) (L:List PodV) (d:Nat) (id nd e:Int):Int :=
  if id ∉ keys L then 5 else if nd ∉ nk M then 5 else if nx (getL L id).h e = 0 then 8 else if e = 1∧fitU M L d id nd = false then 10 else 0
def plI (M:List NV) (L:List PodV) (id nd:Int):Int:=if id ∈ keys L∧nd ∉ nk M then 1 else 0
def plL (M:List NV) (L:List PodV) (d:Nat) (id nd e:Int):List PodV:=if plC M L d id nd e = 0 then appL L id e nd (-1) else L
def cgC (L:List PodV) (id e:Int):Int:=if id ∈ keys L∧(e = 1∨e = 2) then 8 else appC L id e
def cgL (L:List PodV) (id e dl:Int):List PodV:=if cgC L id e = 0 then appL L id e (-1) dl else L
structure Ok (d:Nat) (M:List NV) (L:List PodV):Prop where
  srt:G.Srt NV.k M
  lok:LOk L
  req:∀ y ∈ L,y.m = d∧∀ j,j < d→Amt (y.Z j)
  cap:∀ x ∈ M,∀ j,j < d→Amt (x.C j)
  fit:∀ x ∈ M,∀ j,j < d→usedL L x.k j≤x.C j
  plc:∀ y ∈ L,2≤y.h→y.h≤4→y.d ∈ nk M
theorem heldZ_lo {id:Int} {j:Nat} {y:PodV} (h:Amt (y.Z j)):0≤heldZ id j y:=by
  unfold heldZ
  split
  · exact h.1
  · omega
theorem usedL_lo {L:List PodV} {id:Int} {j:Nat} (h:∀ y ∈ L,Amt (y.Z j)):0≤usedL L id j:=by
  induction L with
  | nil=>exact Int.le_refl _
  | cons y L ih =>
    have h1:=heldZ_lo (id:=id) (h y (by simp))
    have h2:=ih fun z hz=>h z (by simp [hz])
    show 0≤heldZ id j y + usedL L id j
    omega
theorem usedL_hi {L:List PodV} {id:Int} {j:Nat} (h:∀ y ∈ L,Amt (y.Z j)):usedL L id j≤L.length * 1099511627776:=by
  induction L with
  | nil=>exact Int.le_refl _
  | cons y L ih =>
    have h1:=h y (by simp)
    have h2:=ih fun z hz=>h z (by simp [hz])
    show heldZ id j y + usedL L id j≤_
    rw [List.length_cons,Int.natCast_add]
    unfold heldZ
    unfold Amt at h1
    split <;> omega
theorem usedL_append (L K:List PodV) (id:Int) (j:Nat):usedL (L ++ K) id j = usedL L id j + usedL K id j:=by
  induction L with
  | nil=>show usedL K id j = 0 + _;omega
  | cons y L ih =>
    show heldZ id j y + usedL (L ++ K) id j = heldZ id j y + usedL L id j + usedL K id j
    rw [ih]
    omega
theorem usedL_congr {L:List PodV} {f:PodV→PodV} {id:Int} {j:Nat} (h:∀ y ∈ L,heldZ id j (f y) = heldZ id j y):usedL (L.map f) id j = usedL L id j:=by
  induction L with
  | nil=>rfl
  | cons y L ih =>
    show heldZ id j (f y) + usedL (L.map f) id j = heldZ id j y + usedL L id j
    rw [h y (by simp),ih fun z hz=>h z (by simp [hz])]
theorem usedL_app {L:List PodV} (h:LOk L) {k:Int} (hk:k ∈ keys L) (f:PodV→PodV) (id:Int) (j:Nat) :
    usedL (L.map fun y=>if y.k = k then f y else y) id j = usedL L id j - heldZ id j (getL L k) + heldZ id j (f (getL L k)):=by
  have hn:=h.nod
  have hg:∀ y ∈ L,y.k = k→y = getL L k:=fun y hy e=>by rw [← e];exact (get_mem h hy).symm
  obtain ⟨hm,hkk⟩:=get_some hk
  generalize getL L k = z at *
  clear h
  induction L with
  | nil=>cases hm
  | cons y L ih =>
    have hn2:(y.k :: keys L).Nodup:=hn
    rw [List.nodup_cons] at hn2
    show heldZ id j (if y.k = k then f y else y) + usedL (L.map fun y=>if y.k = k then f y else y) id j = heldZ id j y + usedL L id j - _ + _
    by_cases e:y.k = k
    · rw [if_pos e]
      have e2:=hg y (by simp) e
      have e3:(L.map fun y=>if y.k = k then f y else y) = L:=by
        conv=>rhs;rw [← List.map_id L]
        refine List.map_congr_left fun x hx=>?_
        rw [if_neg fun e4=>hn2.1 (by rw [e,← e4];exact List.mem_map_of_mem hx)]
        rfl
      rw [e3,e2]
      omega
    · rw [if_neg e]
      have hm2:z ∈ L:=by
        rcases List.mem_cons.1 hm with rfl | hm2
        · exact absurd hkk e
        · exact hm2
      rw [ih (by rw [← hkk];exact List.mem_map_of_mem hm2) hn2.2 (fun x hx=>hg x (by simp [hx])) hm2]
      omega
theorem Ok.nil (d:Nat):Ok d [] []:=⟨List.Pairwise.nil,LOk.nil,(fun _ h=>by cases h),(fun _ h=>by cases h),(fun _ h=>by cases h),fun _ h=>by cases h⟩
section
variable {d:Nat} {M:List NV} {L:List PodV}
theorem getM {id:Int} (hk:id ∈ nk M):nget M id ∈ M∧(nget M id).k = id:=G.get_some hk
theorem Ok.amtL (h:Ok d M L) {j:Nat} (hj:j < d):∀ y ∈ L,Amt (y.Z j):=fun y hy=>(h.req y hy).2 j hj
theorem adC_zero {k:Int} {n:Nat} {Z:Nat→Int} (h:adC M d k n Z = 0):¬ 0≤wrongOf n Z d∧k ∉ nk M:=by
  unfold adC at h
  by_cases h1:0≤wrongOf n Z d
  · rw [if_pos h1] at h;exact absurd h (by decide)
  · rw [if_neg h1] at h
    by_cases h2:k ∈ nk M
    · rw [if_pos h2] at h;exact absurd h (by decide)
    · exact ⟨h1,h2⟩
theorem Ok.free (h:Ok d M L) {id:Int} (hk:id ∉ nk M) (j:Nat):usedL L id j = 0:=by
  have key:∀ y ∈ L,heldZ id j y = 0:=fun y hy=>by
    unfold heldZ holds
    rw [if_neg]
    intro e
    have e:=of_decide_eq_true e
    exact hk (by rw [← e.1];exact h.plc y hy (by omega) (by omega))
  clear h
  induction L with
  | nil=>rfl
  | cons y L ih =>
    show heldZ id j y + usedL L id j = 0
    rw [key y (by simp),ih fun z hz=>key z (by simp [hz])]
    rfl
theorem adL_ok (h:Ok d M L) {k:Int} {n:Nat} {Z:Nat→Int}:Ok d (adL M d k n Z) L:=by
  unfold adL
  split
  · rename_i h0
    obtain ⟨h1,h2⟩:=adC_zero h0
    obtain ⟨e,ha⟩:=wrong_no h1
    subst e
    refine ⟨G.ins_sorted h.srt h2,h.lok,h.req,fun x hx=>?_,fun x hx j hj=>?_,fun y hy h3 h4=>?_⟩
    · rcases G.ins_mem.1 hx with rfl | hx
      · exact ha
      · exact h.cap x hx
    · rcases G.ins_mem.1 hx with rfl | hx
      · show usedL L k j≤Z j
        rw [h.free h2]
        exact (ha j hj).1
      · exact h.fit x hx j hj
    · exact G.ins_keys.2 (Or.inr (h.plc y hy h3 h4))
  · exact h
theorem heldZ_sub (id:Int) (j:Nat) (x:PodV) (a:Int):heldZ id j (subP x a) = 0:=by
  unfold heldZ holds subP
  rw [if_neg]
  intro e
  rcases (of_decide_eq_true e).2 with e | e <;> exact absurd (show (1:Int) = _ from e) (by decide)
theorem sbL_ok (h:Ok d M L) {x:PodV}:Ok d M (sbL L d x):=by
  unfold sbL
  split
  · exact h
  · rename_i h0
    obtain ⟨e,ha⟩:=wrong_no h0
    have mem:∀ y ∈ subL L 65536 x,y ∈ L∨y = subP x L.length:=fun y hy=>by
      unfold subL at hy
      split at hy
      · rcases List.mem_append.1 hy with hy | hy
        · exact Or.inl hy
        · exact Or.inr (List.mem_singleton.1 hy)
      · exact Or.inl hy
    have us:∀ id j,usedL (subL L 65536 x) id j = usedL L id j:=fun id j=>by
      unfold subL
      split
      · rw [usedL_append]
        show _ + (heldZ id j (subP x L.length) + 0) = _
        rw [heldZ_sub]
        omega
      · rfl
    refine ⟨h.srt,subL_ok h.lok,fun y hy=>?_,h.cap,fun z hz j hj=>by rw [us];exact h.fit z hz j hj,fun y hy h3 h4=>?_⟩
    · rcases mem y hy with hy | rfl
      · exact h.req y hy
      · exact ⟨e,fun j hj=>ha j (by omega)⟩
    · rcases mem y hy with hy | rfl
      · exact h.plc y hy h3 h4
      · exact absurd h3 (by show ¬ (2:Int)≤1;omega)
theorem app_mem {id e nd dl:Int} (h0:appC L id e = 0) {y:PodV} (hy:y ∈ appL L id e nd dl):∃ z,z ∈ L∧((z.k = id∧y = appP z e nd dl)∨(z.k≠id∧y = z)):=by
  unfold appL at hy
  rw [if_pos h0] at hy
  obtain ⟨z,hz,rfl⟩:=List.mem_map.1 hy
  by_cases e1:z.k = id
  · exact ⟨z,hz,Or.inl ⟨e1,if_pos e1⟩⟩
  · exact ⟨z,hz,Or.inr ⟨e1,if_neg e1⟩⟩
theorem app_used (h:LOk L) {id e nd dl:Int} (h0:appC L id e = 0) (i:Int) (j:Nat):usedL (appL L id e nd dl) i j = usedL L i j - heldZ i j (getL L id) + heldZ i j (appP (getL L id) e nd dl):=by
  have hk:id ∈ keys L:=Classical.byContradiction fun hn=>by
    unfold appC at h0
    rw [if_pos hn] at h0
    exact absurd h0 (by decide)
  unfold appL
  rw [if_pos h0]
  exact usedL_app h hk (fun y=>appP y e nd dl) i j
theorem app_at {id e:Int} (h0:appC L id e = 0):id ∈ keys L∧getL L id ∈ L∧(getL L id).k = id∧nx (getL L id).h e≠0:=by
  have hk:id ∈ keys L:=Classical.byContradiction fun hn=>by
    unfold appC at h0
    rw [if_pos hn] at h0
    exact absurd h0 (by decide)
  refine ⟨hk,(get_some hk).1,(get_some hk).2,fun e1=>?_⟩
  unfold appC at h0
  rw [if_neg (not_not_intro hk),if_pos e1] at h0
  exact absurd h0 (by decide)
theorem plC_zero {id nd e:Int} (h:plC M L d id nd e = 0):id ∈ keys L∧nd ∈ nk M∧nx (getL L id).h e≠0∧(e = 1→fitU M L d id nd = true):=by
  unfold plC at h
  by_cases h1:id ∈ keys L
  · rw [if_neg (not_not_intro h1)] at h
    by_cases h2:nd ∈ nk M
    · rw [if_neg (not_not_intro h2)] at h
      by_cases h3:nx (getL L id).h e = 0
      · rw [if_pos h3] at h;exact absurd h (by decide)
      · rw [if_neg h3] at h
        refine ⟨h1,h2,h3,fun e1=>?_⟩
        cases hf:fitU M L d id nd with
        | true=>rfl
        | false=>rw [if_pos ⟨e1,hf⟩] at h;exact absurd h (by decide)
    · rw [if_pos h2] at h;exact absurd h (by decide)
  · rw [if_pos h1] at h;exact absurd h (by decide)
theorem plC_app {id nd e:Int} (h:plC M L d id nd e = 0):appC L id e = 0:=by
  obtain ⟨h1,_,h3,_⟩:=plC_zero h
  unfold appC
  rw [if_neg (not_not_intro h1),if_neg h3]
end
theorem nx_one {p:Int} (h:nx p 1≠0):(p = 1∨p = 2)∧nx p 1 = 3:=by
  unfold nx at h ⊢
  rw [if_pos rfl] at h ⊢
  by_cases h1:p = 1∨p = 2
  · exact ⟨h1,if_pos h1⟩
  · rw [if_neg h1] at h;exact absurd rfl h
theorem nx_two {p:Int} (h:nx p 2≠0):(p = 1∨p = 2)∧nx p 2 = 2:=by
  unfold nx at h ⊢
  rw [if_neg (by decide),if_pos rfl] at h ⊢
  by_cases h1:p = 1∨p = 2
  · exact ⟨h1,if_pos h1⟩
  · rw [if_neg h1] at h;exact absurd rfl h
theorem nx_three {p:Int} (h:nx p 3≠0):p = 2∧nx p 3 = 1:=by
  unfold nx at h ⊢
  rw [if_neg (by decide),if_neg (by decide),if_pos rfl] at h ⊢
  by_cases h1:p = 2
  · exact ⟨h1,if_pos h1⟩
  · rw [if_neg h1] at h;exact absurd rfl h
theorem nx_four {p:Int} (h:nx p 4≠0):p = 3∧nx p 4 = 4:=by
  unfold nx at h ⊢
  rw [if_neg (by decide),if_neg (by decide),if_neg (by decide),if_pos rfl] at h ⊢
  by_cases h1:p = 3
  · exact ⟨h1,if_pos h1⟩
  · rw [if_neg h1] at h;exact absurd rfl h
theorem nx_five {p:Int} (h:nx p 5≠0):(1≤p∧p≤4)∧nx p 5 = 5:=by
  unfold nx at h ⊢
  rw [if_neg (by decide),if_neg (by decide),if_neg (by decide),if_neg (by decide),if_pos rfl] at h ⊢
  by_cases h1:1≤p∧p≤4
  · exact ⟨h1,if_pos h1⟩
  · rw [if_neg h1] at h;exact absurd rfl h
theorem nx_ev {p e:Int} (h:nx p e≠0):e = 1∨e = 2∨e = 3∨e = 4∨e = 5:=by
  by_cases h1:e = 1∨e = 2∨e = 3∨e = 4∨e = 5
  · exact h1
  · exfalso
    apply h
    unfold nx
    repeat' split
    all_goals first | rfl | omega
theorem heldZ_off {i:Int} {j:Nat} {y:PodV} (h:y.h≠3) (h2:y.h≠4):heldZ i j y = 0:=by
  unfold heldZ holds
  rw [if_neg]
  intro e
  rcases (of_decide_eq_true e).2 with e | e
  · exact h e
  · exact h2 e
theorem heldZ_on {i:Int} {j:Nat} {y:PodV} (h:y.h = 3∨y.h = 4):heldZ i j y = if y.d = i then y.Z j else 0:=by
  unfold heldZ holds
  by_cases e:y.d = i
  · rw [if_pos (decide_eq_true ⟨e,h⟩),if_pos e]
  · rw [if_neg (fun e2=>e (of_decide_eq_true e2).1),if_neg e]
section
variable {d:Nat} {M:List NV} {L:List PodV}
theorem plL_used (h:LOk L) {id nd e:Int} (he:e = 1∨e = 2) (h0:plC M L d id nd e = 0) (i:Int) (j:Nat):usedL (plL M L d id nd e) i j = usedL L i j + if e = 1∧nd = i then (getL L id).Z j else 0:=by
  obtain ⟨_,_,h3,_⟩:=plC_zero h0
  unfold plL
  rw [if_pos h0,app_used h (plC_app h0)]
  rcases he with rfl | rfl
  · obtain ⟨ph,hn⟩:=nx_one h3
    rw [heldZ_off (by omega) (by omega),heldZ_on (y:=appP (getL L id) 1 nd (-1)) (Or.inl hn)]
    have e1:(appP (getL L id) 1 nd (-1)).d = nd:=by unfold appP;simp
    rw [e1]
    by_cases e2:nd = i
    · rw [if_pos e2,if_pos ⟨rfl,e2⟩]
      show _ - 0 + (getL L id).Z j = _
      omega
    · rw [if_neg e2,if_neg fun e3=>e2 e3.2]
      omega
  · obtain ⟨ph,hn⟩:=nx_two h3
    rw [heldZ_off (by omega) (by omega),heldZ_off (y:=appP (getL L id) 2 nd (-1)) (by show nx _ 2≠3;rw [hn];decide) (by show nx _ 2≠4;rw [hn];decide),if_neg fun e3=>absurd e3.1 (by decide)]
    omega
theorem plL_ok (h:Ok d M L) {id nd e:Int} (he:e = 1∨e = 2):Ok d M (plL M L d id nd e):=by
  by_cases h0:plC M L d id nd e = 0
  · obtain ⟨h1,h2,h3,h4⟩:=plC_zero h0
    have us:=plL_used (d:=d) (M:=M) h.lok he h0
    unfold plL at us ⊢
    rw [if_pos h0] at us ⊢
    have ha:=plC_app h0
    refine ⟨h.srt,appL_ok h.lok,fun y hy=>?_,h.cap,fun x hx j hj=>?_,fun y hy h5 h6=>?_⟩
    · obtain ⟨z,hz,⟨_,rfl⟩ | ⟨_,rfl⟩⟩:=app_mem ha hy
      · exact h.req z hz
      · exact h.req y hz
    · rw [us]
      split
      · rename_i e5
        have hf:=(fitU_iff.1 (h4 e5.1)) j hj
        have ex:nget M x.k = x:=G.get_at h.srt hx
        rw [e5.2,ex] at hf
        exact hf
      · have:=h.fit x hx j hj
        omega
    · obtain ⟨z,hz,⟨_,rfl⟩ | ⟨_,rfl⟩⟩:=app_mem ha hy
      · have e1:(appP z e nd (-1)).d = nd:=by
          unfold appP
          show (if e = 1∨e = 2 then nd else _) = nd
          rw [if_pos he]
        rw [e1]
        exact h2
      · exact h.plc y hz h5 h6
  · unfold plL
    rw [if_neg h0]
    exact h
theorem cgC_zero {id e:Int} (h:cgC L id e = 0):appC L id e = 0∧(e = 3∨e = 4∨e = 5)∧id ∈ keys L:=by
  unfold cgC at h
  by_cases h1:id ∈ keys L∧(e = 1∨e = 2)
  · rw [if_pos h1] at h;exact absurd h (by decide)
  · rw [if_neg h1] at h
    obtain ⟨a,_,_,b⟩:=app_at h
    have:=nx_ev b
    exact ⟨h,by have:¬ (e = 1∨e = 2):=fun e2=>h1 ⟨a,e2⟩;omega,a⟩
theorem cgL_used (h:LOk L) {id e dl:Int} (h0:cgC L id e = 0) (i:Int) (j:Nat):usedL (cgL L id e dl) i j = usedL L i j - if e = 5 then heldZ i j (getL L id) else 0:=by
  obtain ⟨ha,he,_⟩:=cgC_zero h0
  obtain ⟨_,_,_,hn⟩:=app_at ha
  unfold cgL
  rw [if_pos h0,app_used h ha]
  rcases he with rfl | rfl | rfl
  · obtain ⟨ph,hn⟩:=nx_three hn
    rw [heldZ_off (by omega) (by omega),heldZ_off (y:=appP (getL L id) 3 (-1) dl) (by show nx _ 3≠3;rw [hn];decide) (by show nx _ 3≠4;rw [hn];decide),if_neg (by decide)]
    omega
  · obtain ⟨ph,hn⟩:=nx_four hn
    rw [heldZ_on (Or.inl ph),heldZ_on (y:=appP (getL L id) 4 (-1) dl) (Or.inr hn),if_neg (show ¬ (4:Int) = 5 by decide)]
    have e1:(appP (getL L id) 4 (-1) dl).d = (getL L id).d:=by unfold appP;simp
    rw [e1]
    show _ - _ + (if (getL L id).d = i then (getL L id).Z j else 0) = _
    omega
  · obtain ⟨ph,hn⟩:=nx_five hn
    rw [heldZ_off (y:=appP (getL L id) 5 (-1) dl) (by show nx _ 5≠3;rw [hn];decide) (by show nx _ 5≠4;rw [hn];decide),if_pos rfl]
    omega
theorem cgL_ok (h:Ok d M L) {id e dl:Int}:Ok d M (cgL L id e dl):=by
  by_cases h0:cgC L id e = 0
  · obtain ⟨ha,he,hk⟩:=cgC_zero h0
    obtain ⟨_,hm,hkk,hn⟩:=app_at ha
    have us:=cgL_used (dl:=dl) h.lok h0
    unfold cgL at us ⊢
    rw [if_pos h0] at us ⊢
    refine ⟨h.srt,appL_ok h.lok,fun y hy=>?_,h.cap,fun x hx j hj=>?_,fun y hy h5 h6=>?_⟩
    · obtain ⟨z,hz,⟨_,rfl⟩ | ⟨_,rfl⟩⟩:=app_mem ha hy
      · exact h.req z hz
      · exact h.req y hz
    · rw [us]
      have h7:=h.fit x hx j hj
      have h8:=heldZ_lo (id:=x.k) (h.amtL hj _ hm)
      split <;> omega
    · obtain ⟨z,hz,⟨e1,rfl⟩ | ⟨_,rfl⟩⟩:=app_mem ha hy
      · have ez:getL L id = z:=by rw [← e1];exact get_mem h.lok hz
        rw [ez] at hn
        rw [appP_h] at h5 h6
        rcases he with rfl | rfl | rfl
        · rw [(nx_three hn).2] at h5;exact absurd h5 (by decide)
        · have e2:(appP z 4 (-1) dl).d = z.d:=by unfold appP;simp
          rw [e2]
          have:=(nx_four hn).1
          exact h.plc z hz (by omega) (by omega)
        · rw [(nx_five hn).2] at h6;exact absurd h6 (by decide)
      · exact h.plc y hz h5 h6
  · unfold cgL
    rw [if_neg h0]
    exact h
theorem on_h {id:Int} {y:PodV} (h:onB id y = true):y.d = id∧2≤y.h∧y.h≤4:=of_decide_eq_true h
end
end Go.Proofs.YtclfbplbccehkaaGreatDoor.T14

namespace Go.Proofs.YtclfbplbccehkaaGreatDoor.T13
open Go.RowKit Go.Sort Go.Lib V12
def flt (c n:Int):Value:=(Base.fault c n).val
def fltC (c:Int):Value:=if c = 0 then .nilIface else flt c 0
abbrev Pred:=World→Int→Nat→List PodV→(Nat→Prop)→World→Prop
def rb (r:PodV) (i:Nat):Prop:=0 < r.m∧∃ o,r.A = some ⟨i,o,none⟩
structure Con (OS:Pred):Prop where
  kp:∀ {w s q L X w1},OS w s q L X w1→Keep w w1
  keep:∀ {w s q L X w1 w2},OS w s q L X w1→Keep w1 w2→OS w s q L X w2
  more:∀ {w s q L X w1 w2} {Z:Nat→Prop},OS w s q L X w1→Keep w1 w2→(∀ i,Z i→w1.heap.size≤i∧i < w2.heap.size)→OS w s q L (fun i=>X i∨Z i) w2
  less:∀ {w s q L X w1} {Z:Nat→Prop},OS w s q L X w1→(∀ i,Z i→X i)→OS w s q L Z w1
  write:∀ {w s q L X w1 w2},OS w s q L X w1→Keep w w2→w1.heap.size≤w2.heap.size→(∀ k,k < w1.heap.size→¬ X k→w2.heap[k]? = w1.heap[k]?)→OS w s q L X w2
  grow:∀ {w s q L X w1 w2} {Z:Nat→Prop},OS w s q L X w1→Keep w w2→w1.heap.size≤w2.heap.size→(∀ k,k < w1.heap.size→¬ X k→w2.heap[k]? = w1.heap[k]?)→(∀ i,Z i→w1.heap.size≤i∧i < w2.heap.size)→OS w s q L (fun i=>X i∨Z i) w2
  lt:∀ {w s q L X w1},OS w s q L X w1→∀ i,X i→i < w1.heap.size
  ok:∀ {w s q L X w1},OS w s q L X w1→LOk L
  new:∀ (s:Int) (w w0:World),Keep w w0→I64 s→Calls Tryz.prog 54 #[.int .i64 s] w0 fun e w'=>∃ q,e = .returned (.pointer (some ⟨q,0,none⟩))∧OS w s q [] (fun _=>False) w'∧Keep w0 w'
  submit:∀ {w s q L X w1} (x:PodV),OS w s q L X w1→ErrT w1→PodIs w1 x→x.m≤1000→L.length≤1000 →
    Calls Tryz.prog 60 #[.pointer (some ⟨q,0,none⟩),x.val] w1 fun e w'=>∃ r,e = .returned (.tuple #[r.val,fltC (subC L s x)])∧(subC L s x = 0→nm r = subP x L.length)∧(subC L s x≠0→nm r = zpod)∧PodIs w' r∧Req w' w1.heap.size r∧OS w s q (subL L s x) (fun i=>X i∨rb r i) w'∧∀ i,X i→w'.heap[i]? = w1.heap[i]?
  apply:∀ {w s q L X w1} (id e nd dl:Int),OS w s q L X w1→ErrT w1→I64 id→I64 e→I64 nd→I64 dl→(∀ y ∈ L,y.m≤1000)→L.length≤1000 →
    Calls Tryz.prog 51 #[.pointer (some ⟨q,0,none⟩),.int .i64 id,.int .i64 e,.int .i64 nd,.int .i64 dl] w1 fun e' w'=>∃ r,e' = .returned (.tuple #[r.val,fltC (appC L id e)])∧(appC L id e = 0→nm r = appP (getL L id) e nd dl)∧(appC L id e≠0→nm r = zpod)∧PodIs w' r∧Req w' w1.heap.size r∧OS w s q (appL L id e nd dl) (fun i=>X i∨rb r i) w'∧∀ i,X i→w'.heap[i]? = w1.heap[i]?
  get:∀ {w s q L X w1} (id:Int),OS w s q L X w1→I64 id→(∀ y ∈ L,y.m≤1000) →
    Calls Tryz.prog 48 #[.pointer (some ⟨q,0,none⟩),.int .i64 id] w1 fun e w'=>∃ r,e = .returned (.tuple #[r.val,.bool (decide (id ∈ keys L))])∧nm r = getL L id∧PodIs w' r∧Req w' w1.heap.size r∧Keep w1 w'
  on:∀ {w s q L X w1} (nd:Int),OS w s q L X w1→(∀ y ∈ L,y.m≤1000)→L.length≤1000 →
    Calls Tryz.prog 97 #[.pointer (some ⟨q,0,none⟩),.int .i64 nd] w1 fun e w'=>∃ v S,e = .returned v∧RowP w' w1.heap.size v (L.filter (onB nd)).length S∧(lst S (L.filter (onB nd)).length).map nm = L.filter (onB nd)∧Keep w1 w'
  submitNil:∀ (x:PodV) (w:World),ErrT w→PodIs w x→Calls Tryz.prog 60 #[.pointer none,x.val] w fun e w'=>∃ r:PodV,e = .returned (.tuple #[r.val,flt 5 0])∧nm r = zpod∧Keep w w'
def SameX (X:Nat→Prop) (w1 w2:World):Prop:=∀ i,X i→w2.heap[i]? = w1.heap[i]?
structure RL (w:World) (X:Nat→Prop) (w1:World) (B:Option Addr) (c n:Nat) (P:Nat→PodV):Prop where
  rd:RdPods w1 B n P
  cap:n≤c
  pl:(B = none∧n = 0∧c = 0)∨∃ g,B = some ⟨g,0,none⟩∧X g
  is:∀ j,j < n→PodIs w (P j)
theorem RL.nil (w:World) (X:Nat→Prop) (w1:World):RL w X w1 none 0 0 (fun _=>zpod):=⟨RdPods.nil _ _ _,Nat.le_refl _,Or.inl ⟨rfl,rfl,rfl⟩,fun _ h=>absurd h (Nat.not_lt_zero _)⟩
theorem RL.keep {w:World} {X:Nat→Prop} {w1 w2:World} {B:Option Addr} {c n:Nat} {P:Nat→PodV} (h:RL w X w1 B c n P) (k:Keep w1 w2):RL w X w2 B c n P:=⟨h.rd.keep k,h.cap,h.pl,h.is⟩
theorem RL.less {w:World} {X Z:Nat→Prop} {w1:World} {B:Option Addr} {c n:Nat} {P:Nat→PodV} (h:RL w X w1 B c n P) (hZ:∀ i,X i→Z i):RL w Z w1 B c n P:=⟨h.rd,h.cap,h.pl.imp id fun ⟨g,e,hg⟩=>⟨g,e,hZ g hg⟩,h.is⟩
theorem cell_same {w1 w2:World} {a:Addr} {v:Value} (h:w1.cell? a = some v) (e:w2.heap[a.block]? = w1.heap[a.block]?):w2.cell? a = some v:=by
  rw [World.cell?_of_block (w:=w1) e];exact h
theorem Cel9.same {w1 w2:World} {b o:Nat} {x:PodV} (h:Cel9 w1 b o x) (e:w2.heap[b]? = w1.heap[b]?):Cel9 w2 b o x :=
  ⟨cell_same h.e0 e,cell_same h.e1 e,cell_same h.e2 e,cell_same h.e3 e,cell_same h.e4 e,cell_same h.e5 e,cell_same h.e6 e,cell_same h.e7 e,cell_same h.e8 e⟩
theorem RL.same {w:World} {X:Nat→Prop} {w1 w2:World} {B:Option Addr} {c n:Nat} {P:Nat→PodV} (h:RL w X w1 B c n P) (k:Keep w w2) (f:SameX X w1 w2):RL w X w2 B c n P:=by
  refine ⟨⟨h.rd.small,fun hn=>?_,fun j hj=>(h.is j hj).keep k⟩,h.cap,h.pl,h.is⟩
  obtain ⟨b,off,e,hc⟩:=h.rd.adr hn
  rcases h.pl with ⟨_,h0,_⟩ | ⟨g,eg,hg⟩
  · omega
  · have e2:=Option.some.inj (eg.symm.trans e)
    simp only [Addr.mk.injEq,and_true] at e2
    refine ⟨b,off,e,fun j hj=>(hc j hj).same ?_⟩
    rw [← e2.1]
    exact f g hg
end Go.Proofs.YtclfbplbccehkaaGreatDoor.T13

