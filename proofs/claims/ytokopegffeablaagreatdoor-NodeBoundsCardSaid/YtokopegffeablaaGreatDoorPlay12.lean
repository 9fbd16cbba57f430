/-
  The law's play, but for a drop. Conditions: errors.errorType holds its own; at most 1000 nodes, 1000 amounts, 64 dimensions.
-/
import Derived.Test.YtokopegffeablaaGreatDoorCon12
import Derived.Test.YtokopegffeablaaGreatDoorRefA12
namespace Go.Proofs.YtokopegffeablaaGreatDoor.T12
open Go.RowKit Go.Sort Go.Lib V12

def Played (SI : World → Nat → Int → Nat → (Nat → Prop) → List NodeV → Prop) (d : Nat) (s : Int) (q : Nat) (D : Nat → Prop) (w : World) (M : List NodeV) (e : Ending) (w' : World) : Prop :=
  ∃ B' c' l' b, e = .returned (.tuple #[.slice B' l'.length c', .bool b]) ∧ RL w' d B' c' l' ∧ l'.map node = M ∧ Eff SI d s q D w M w'
section
variable {SI : World → Nat → Int → Nat → (Nat → Prop) → List NodeV → Prop} {w w1 w2 : World} {d : Nat} {s : Int} {q : Nat} {D : Nat → Prop} {L M : List NodeV}
theorem Eff.after (k : Keep w w1) (e : Eff SI d s q D w1 M w2) : Eff SI d s q D w M w2 := by
  obtain ⟨D', h, f, hd⟩ := e
  exact ⟨D', h, FrS.after k f, fun i hi => (hd i hi).elim Or.inl fun h => Or.inr (Nat.le_trans k.size h)⟩
theorem Eff.keep (C : Con SI) (e : Eff SI d s q D w M w1) (k : Keep w1 w2) : Eff SI d s q D w M w2 := by
  obtain ⟨D', h, f, hd⟩ := e
  exact ⟨D', C.keep h k, f.keep k, hd⟩
theorem ok_of (C : Con SI) (h : SI w d s q D L) {l : List RnV} (hL : l.map node = L) : Srt l ∧ ∀ x ∈ l, NodeOk d (node x) :=
  ⟨map_srt.1 (by rw [hL]; exact C.srt h), fun x hx => C.ok h _ (by rw [← hL]; exact List.mem_map_of_mem hx)⟩
end
set_option maxRecDepth 100000 in
set_option maxHeartbeats 16000000 in
theorem play_add {SI : World → Nat → Int → Nat → (Nat → Prop) → List NodeV → Prop} (C : Con SI) {w : World} {d : Nat} {s : Int} {q : Nat} {D : Nat → Prop} {L : List NodeV} (h : SI w d s q D L) {B : Option Addr} {cp : Nat} {l : List RnV} (hr : RL w d B cp l) (hL : l.map node = L) (hg : ErrT w)
    (id : Int) (A : Option Addr) (n c : Nat) (Z : Nat → Int) (hv : Rd w A n Z) (nilA : A = none → n = 0 ∧ c = 0) (hid : I64 id) (hn : n ≤ 1000) (hd : d ≤ 64) (hl : l.length ≤ 1000) :
    Calls Tryz.prog 8 #[.pointer (some ⟨q, 0, none⟩), .slice B l.length cp, .int .i64 s, .agg #[.int .i64 0, .int .i64 id, .slice A n c]] w (Played SI d s q D w (addL L d s id n Z)) := by
  have hs := (ok_of C h hL).1
  have hok := (ok_of C h hL).2
  obtain ⟨cc, hcc⟩ : ∃ cc, cc = addC L d s id n Z := ⟨_, rfl⟩
  obtain ⟨ci, hci⟩ : ∃ ci, ci = addI d n Z := ⟨_, rfl⟩
  obtain ⟨M, hM⟩ : ∃ M, M = addL L d s id n Z := ⟨_, rfl⟩
  rw [← hM]
  obtain ⟨W, hW⟩ : ∃ W, W = w.alloc (.cells #[.int .i64 0, .int .i64 id, .slice A n c] 32) := ⟨_, rfl⟩
  have KW : Hid (Keep w W) := by rw [hW]; exact Keep.one _ _
  have u0 : W.cell? ⟨w.heap.size, 0, none⟩ = some (.int .i64 0) := by rw [hW]; simp [go_sem]
  have u1 : W.cell? ⟨w.heap.size, 1, none⟩ = some (.int .i64 id) := by rw [hW]; simp [go_sem]
  have u2 : W.cell? ⟨w.heap.size, 2, none⟩ = some (.slice A n c) := by rw [hW]; simp [go_sem]
  have U0 := Lib.hid u0
  have U1 := Lib.hid u1
  have U2 := Lib.hid u2
  clear u0 u1 u2
  have cD := Lib.hid (C.dims (C.keep h KW.out))
  have cR : Hid (∀ W1, Keep w W1 → Calls Tryz.prog 22 #[.slice B l.length cp, .int .i64 d, .int .i64 s, .agg #[.int .i64 id, .slice A n c]] W1 fun e w' => ∃ B' c' l', e = .returned (.tuple #[.slice B' l'.length c', .int .i64 cc, .int .i64 ci]) ∧ Keep W1 w' ∧ RL w' d B' c' l' ∧ l'.map node = M) := fun W1 k => by
    rw [hcc, hci, hM, ← hL]
    exact radd_fn (hr.keep k) s id A n c Z (hv.keep k) nilA (by omega) hl hs hid
  have cA : Hid (∀ W1, Keep w W1 → Calls Tryz.prog 15 #[.pointer (some ⟨q, 0, none⟩), .agg #[.int .i64 id, .slice A n c]] W1 fun e w' => e = .returned (fltC cc ci) ∧ Eff SI d s q D W1 M w') := fun W1 k => by
    rw [hcc, hci, hM]
    exact C.add id A n c Z (C.keep h k) (hg.keep k) (hv.keep k) nilA hid hn hd
  have cT := Lib.hid (fun W => told_any cc ci ci W)
  have HG := Lib.hid hg
  have HH := Lib.hid h
  replace hcc := Lib.hid hcc
  replace hci := Lib.hid hci
  replace hM := Lib.hid hM
  replace hL := Lib.hid hL
  replace hs := Lib.hid hs
  replace hok := Lib.hid hok
  replace nilA := Lib.hid nilA
  replace hid := Lib.hid hid
  clear h hg hr hv
  go_enter Tryz.func8, Tryz.ntmps8
  go_wp2_with fail
  rw [← hW]
  replace hW := Lib.hid hW
  refine cD.out.mono ?_
  rintro e w1 ⟨rfl, k1⟩
  have K1 := Lib.hid (KW.out.trans k1)
  have v0 := k1.cell U0.out
  have v1 := k1.cell U1.out
  have v2 := k1.cell U2.out
  replace k1 := Lib.hid k1
  clear cD
  go_wp2_with fail
  refine (cR.out _ K1.out).mono ?_
  rintro e w2 ⟨B', c', l', rfl, k2, R2, E2⟩
  have K2 := Lib.hid (K1.out.trans k2)
  replace v0 := Lib.hid v0
  have x1 := k2.cell v1
  have x2 := k2.cell v2
  replace k2 := Lib.hid k2
  replace R2 := Lib.hid R2
  replace E2 := Lib.hid E2
  clear v1 v2 cR
  go_wp2_with fail
  refine (cA.out _ K2.out).mono ?_
  rintro e w3 ⟨rfl, F3⟩
  obtain ⟨D3, S3, G3, N3⟩ := F3
  have g3 := C.errT (C.keep HH.out K2.out) G3 (HG.out.keep K2.out)
  have R3 := Lib.hid (C.rl (C.keep HH.out K2.out) G3 R2.out)
  have F3 : Hid (Eff SI d s q D w2 M w3) := ⟨D3, S3, G3, N3⟩
  replace S3 := Lib.hid S3
  replace G3 := Lib.hid G3
  replace N3 := Lib.hid N3
  have cT3 := Lib.hid (cT.out w3 g3)
  replace g3 := Lib.hid g3
  clear x1 x2 cA cT
  go_wp2_with fail
  refine cT3.out.mono ?_
  rintro e w4 ⟨⟨tb, rfl⟩, k4⟩
  have K4 := Lib.hid k4
  clear k4 cT3
  go_wp2
  go_ret2
  exact ⟨B', c', l', tb, rfl, R3.out.keep K4.out, E2.out, (F3.out.after K2.out).keep C K4.out⟩
set_option maxRecDepth 100000 in
set_option maxHeartbeats 16000000 in
theorem play_hold {SI : World → Nat → Int → Nat → (Nat → Prop) → List NodeV → Prop} (C : Con SI) {w : World} {d : Nat} {s : Int} {q : Nat} {D : Nat → Prop} {L : List NodeV} (h : SI w d s q D L) {B : Option Addr} {cp : Nat} {l : List RnV} (hr : RL w d B cp l) (hL : l.map node = L) (hg : ErrT w)
    (id : Int) (A : Option Addr) (n c : Nat) (Z : Nat → Int) (hv : Rd w A n Z) (nilA : A = none → n = 0 ∧ c = 0) (hid : I64 id) (hn : n ≤ 1000) (hd : d ≤ 64) (hl : l.length ≤ 1000) :
    Calls Tryz.prog 8 #[.pointer (some ⟨q, 0, none⟩), .slice B l.length cp, .int .i64 s, .agg #[.int .i64 2, .int .i64 id, .slice A n c]] w (Played SI d s q D w (chL L d id n Z false)) := by
  have hs := (ok_of C h hL).1
  have hok := (ok_of C h hL).2
  obtain ⟨cc, hcc⟩ : ∃ cc, cc = chC L d id n Z false := ⟨_, rfl⟩
  obtain ⟨ci, hci⟩ : ∃ ci, ci = chI L d id n Z := ⟨_, rfl⟩
  obtain ⟨M, hM⟩ : ∃ M, M = chL L d id n Z false := ⟨_, rfl⟩
  rw [← hM]
  obtain ⟨W, hW⟩ : ∃ W, W = w.alloc (.cells #[.int .i64 2, .int .i64 id, .slice A n c] 32) := ⟨_, rfl⟩
  have KW : Hid (Keep w W) := by rw [hW]; exact Keep.one _ _
  have u0 : W.cell? ⟨w.heap.size, 0, none⟩ = some (.int .i64 2) := by rw [hW]; simp [go_sem]
  have u1 : W.cell? ⟨w.heap.size, 1, none⟩ = some (.int .i64 id) := by rw [hW]; simp [go_sem]
  have u2 : W.cell? ⟨w.heap.size, 2, none⟩ = some (.slice A n c) := by rw [hW]; simp [go_sem]
  have U0 := Lib.hid u0
  have U1 := Lib.hid u1
  have U2 := Lib.hid u2
  clear u0 u1 u2
  have cD := Lib.hid (C.dims (C.keep h KW.out))
  have cR : Hid (∀ W1, Keep w W1 → Calls Tryz.prog 27 #[.slice B l.length cp, .int .i64 d, .int .i64 id, .slice A n c, .bool false] W1 fun e w' => ∃ B' c' l', e = .returned (.tuple #[.slice B' l'.length c', .int .i64 cc, .int .i64 ci]) ∧ Keep W1 w' ∧ RL w' d B' c' l' ∧ l'.map node = M) := fun W1 k => by
    rw [hcc, hci, hM, ← hL]
    exact rch_fn (hr.keep k) id A n c Z false (hv.keep k) (by omega) hl hs hok
  have cA : Hid (∀ W1, Keep w W1 → Calls Tryz.prog 16 #[.pointer (some ⟨q, 0, none⟩), .int .i64 id, .slice A n c] W1 fun e w' => e = .returned (fltC cc 0) ∧ Eff SI d s q D W1 M w') := fun W1 k => by
    rw [hcc, hM]
    exact C.hold id A n c Z (C.keep h k) (hg.keep k) (hv.keep k) hid hn hd
  have cT := Lib.hid (fun W => told_any cc 0 ci W)
  have HG := Lib.hid hg
  have HH := Lib.hid h
  replace hcc := Lib.hid hcc
  replace hci := Lib.hid hci
  replace hM := Lib.hid hM
  replace hL := Lib.hid hL
  replace hs := Lib.hid hs
  replace hok := Lib.hid hok
  replace nilA := Lib.hid nilA
  replace hid := Lib.hid hid
  clear h hg hr hv
  go_enter Tryz.func8, Tryz.ntmps8
  go_wp2_with fail
  rw [← hW]
  replace hW := Lib.hid hW
  refine cD.out.mono ?_
  rintro e w1 ⟨rfl, k1⟩
  have K1 := Lib.hid (KW.out.trans k1)
  have v0 := k1.cell U0.out
  have v1 := k1.cell U1.out
  have v2 := k1.cell U2.out
  replace k1 := Lib.hid k1
  clear cD
  go_wp2_with fail
  refine (cR.out _ K1.out).mono ?_
  rintro e w2 ⟨B', c', l', rfl, k2, R2, E2⟩
  have K2 := Lib.hid (K1.out.trans k2)
  replace v0 := Lib.hid v0
  have x1 := k2.cell v1
  have x2 := k2.cell v2
  replace k2 := Lib.hid k2
  replace R2 := Lib.hid R2
  replace E2 := Lib.hid E2
  clear v1 v2 cR
  go_wp2_with fail
  refine (cA.out _ K2.out).mono ?_
  rintro e w3 ⟨rfl, F3⟩
  obtain ⟨D3, S3, G3, N3⟩ := F3
  have g3 := C.errT (C.keep HH.out K2.out) G3 (HG.out.keep K2.out)
  have R3 := Lib.hid (C.rl (C.keep HH.out K2.out) G3 R2.out)
  have F3 : Hid (Eff SI d s q D w2 M w3) := ⟨D3, S3, G3, N3⟩
  replace S3 := Lib.hid S3
  replace G3 := Lib.hid G3
  replace N3 := Lib.hid N3
  have cT3 := Lib.hid (cT.out w3 g3)
  replace g3 := Lib.hid g3
  clear x1 x2 cA cT
  go_wp2_with fail
  refine cT3.out.mono ?_
  rintro e w4 ⟨⟨tb, rfl⟩, k4⟩
  have K4 := Lib.hid k4
  clear k4 cT3
  go_wp2
  go_ret2
  exact ⟨B', c', l', tb, rfl, R3.out.keep K4.out, E2.out, (F3.out.after K2.out).keep C K4.out⟩
set_option maxRecDepth 100000 in
set_option maxHeartbeats 16000000 in
theorem play_rel {SI : World → Nat → Int → Nat → (Nat → Prop) → List NodeV → Prop} (C : Con SI) {w : World} {d : Nat} {s : Int} {q : Nat} {D : Nat → Prop} {L : List NodeV} (h : SI w d s q D L) {B : Option Addr} {cp : Nat} {l : List RnV} (hr : RL w d B cp l) (hL : l.map node = L) (hg : ErrT w)
    (id : Int) (A : Option Addr) (n c : Nat) (Z : Nat → Int) (kd : Int) (h0 : ¬ kd = 0) (h1 : ¬ kd = 1) (h2 : ¬ kd = 2) (hv : Rd w A n Z) (nilA : A = none → n = 0 ∧ c = 0) (hid : I64 id) (hn : n ≤ 1000) (hd : d ≤ 64) (hl : l.length ≤ 1000) :
    Calls Tryz.prog 8 #[.pointer (some ⟨q, 0, none⟩), .slice B l.length cp, .int .i64 s, .agg #[.int .i64 kd, .int .i64 id, .slice A n c]] w (Played SI d s q D w (chL L d id n Z true)) := by
  have hs := (ok_of C h hL).1
  have hok := (ok_of C h hL).2
  obtain ⟨cc, hcc⟩ : ∃ cc, cc = chC L d id n Z true := ⟨_, rfl⟩
  obtain ⟨ci, hci⟩ : ∃ ci, ci = chI L d id n Z := ⟨_, rfl⟩
  obtain ⟨M, hM⟩ : ∃ M, M = chL L d id n Z true := ⟨_, rfl⟩
  rw [← hM]
  obtain ⟨W, hW⟩ : ∃ W, W = w.alloc (.cells #[.int .i64 kd, .int .i64 id, .slice A n c] 32) := ⟨_, rfl⟩
  have KW : Hid (Keep w W) := by rw [hW]; exact Keep.one _ _
  have u0 : W.cell? ⟨w.heap.size, 0, none⟩ = some (.int .i64 kd) := by rw [hW]; simp [go_sem]
  have u1 : W.cell? ⟨w.heap.size, 1, none⟩ = some (.int .i64 id) := by rw [hW]; simp [go_sem]
  have u2 : W.cell? ⟨w.heap.size, 2, none⟩ = some (.slice A n c) := by rw [hW]; simp [go_sem]
  have U0 := Lib.hid u0
  have U1 := Lib.hid u1
  have U2 := Lib.hid u2
  clear u0 u1 u2
  have cD := Lib.hid (C.dims (C.keep h KW.out))
  have cR : Hid (∀ W1, Keep w W1 → Calls Tryz.prog 27 #[.slice B l.length cp, .int .i64 d, .int .i64 id, .slice A n c, .bool true] W1 fun e w' => ∃ B' c' l', e = .returned (.tuple #[.slice B' l'.length c', .int .i64 cc, .int .i64 ci]) ∧ Keep W1 w' ∧ RL w' d B' c' l' ∧ l'.map node = M) := fun W1 k => by
    rw [hcc, hci, hM, ← hL]
    exact rch_fn (hr.keep k) id A n c Z true (hv.keep k) (by omega) hl hs hok
  have cA : Hid (∀ W1, Keep w W1 → Calls Tryz.prog 18 #[.pointer (some ⟨q, 0, none⟩), .int .i64 id, .slice A n c] W1 fun e w' => e = .returned (fltC cc 0) ∧ Eff SI d s q D W1 M w') := fun W1 k => by
    rw [hcc, hM]
    exact C.release id A n c Z (C.keep h k) (hg.keep k) (hv.keep k) hid hn hd
  have cT := Lib.hid (fun W => told_any cc 0 ci W)
  have HG := Lib.hid hg
  have HH := Lib.hid h
  replace hcc := Lib.hid hcc
  replace hci := Lib.hid hci
  replace hM := Lib.hid hM
  replace hL := Lib.hid hL
  replace hs := Lib.hid hs
  replace hok := Lib.hid hok
  replace nilA := Lib.hid nilA
  replace hid := Lib.hid hid
  clear h hg hr hv
  go_enter Tryz.func8, Tryz.ntmps8
  go_wp2_with fail
  rw [← hW]
  replace hW := Lib.hid hW
  refine cD.out.mono ?_
  rintro e w1 ⟨rfl, k1⟩
  have K1 := Lib.hid (KW.out.trans k1)
  have v0 := k1.cell U0.out
  have v1 := k1.cell U1.out
  have v2 := k1.cell U2.out
  replace k1 := Lib.hid k1
  clear cD
  go_wp2_with fail
  refine (cR.out _ K1.out).mono ?_
  rintro e w2 ⟨B', c', l', rfl, k2, R2, E2⟩
  have K2 := Lib.hid (K1.out.trans k2)
  replace v0 := Lib.hid v0
  have x1 := k2.cell v1
  have x2 := k2.cell v2
  replace k2 := Lib.hid k2
  replace R2 := Lib.hid R2
  replace E2 := Lib.hid E2
  clear v1 v2 cR
  go_wp2_with fail
  refine (cA.out _ K2.out).mono ?_
  rintro e w3 ⟨rfl, F3⟩
  obtain ⟨D3, S3, G3, N3⟩ := F3
  have g3 := C.errT (C.keep HH.out K2.out) G3 (HG.out.keep K2.out)
  have R3 := Lib.hid (C.rl (C.keep HH.out K2.out) G3 R2.out)
  have F3 : Hid (Eff SI d s q D w2 M w3) := ⟨D3, S3, G3, N3⟩
  replace S3 := Lib.hid S3
  replace G3 := Lib.hid G3
  replace N3 := Lib.hid N3
  have cT3 := Lib.hid (cT.out w3 g3)
  replace g3 := Lib.hid g3
  clear x1 x2 cA cT
  go_wp2_with fail
  refine cT3.out.mono ?_
  rintro e w4 ⟨⟨tb, rfl⟩, k4⟩
  have K4 := Lib.hid k4
  clear k4 cT3
  go_wp2
  go_ret2
  exact ⟨B', c', l', tb, rfl, R3.out.keep K4.out, E2.out, (F3.out.after K2.out).keep C K4.out⟩
end Go.Proofs.YtokopegffeablaaGreatDoor.T12
