/-
  The law's play at a Remove and at a Get. Condition: errors.errorType holds its own.
-/
import Derived.Test.YtfjghbgmjpdpbaaDoorPlayS10
namespace Go.Proofs.YtfjghbgmjpdpbaaDoor.T10
open Go.RowKit Go.Sort Go.Lib

section
variable {w : World} {s : Int} {p m : Nat} {L : List PrV} {B : Option Addr} {d : Nat}
set_option maxRecDepth 100000 in
set_option maxHeartbeats 8000000 in
theorem play_rem (hT : TI w s p m L) (hR : RL w B d L) (hl : L.length ≤ 100) (x : PrV) :
    Calls Tryd.prog 10 #[.pointer (some ⟨p, 0, none⟩), .slice B L.length d, .int .i64 s, .agg #[.int .i64 2, .int .i64 x.k, .int .i64 x.v]] w fun e w' => ∃ B' d', e = .returned (.tuple #[.slice B' (woL L x.k).length d', .bool true]) ∧ After w w' s p m B' d' (woL L x.k) := by
  obtain ⟨KW, V, X⟩ := laid2 w (2) x
  obtain ⟨W, hW⟩ : ∃ W, W = (w.alloc (.cells #[.int .i64 2, .int .i64 x.k, .int .i64 x.v] 32)).alloc (.cells #[.int .i64 x.k, .int .i64 x.v] 30) := ⟨_, rfl⟩
  rw [← hW] at KW V X
  have RW := hR.keep KW
  have TW := hT.keep KW
  have cF := rfind_fn B L.length d (row L) x.k W RW.rd
  have fc := find_cases (row L) x.k L.length
  rw [lst_row] at fc
  have cT : Hid (∀ W', Keep W W' → Calls Tryd.prog 23 #[.pointer (some ⟨p, 0, none⟩), .int .i64 x.k] W' fun e w' => e = .returned (.tuple #[.int .i64 (getL L x.k).v, .bool (decide (x.k ∈ keys L))]) ∧ TI w' s p m (woL L x.k) ∧ Fr (· = m) W' w') := fun W' k => trem_fn (hT.keep (KW.trans k)) x.k
  have cR : Hid (∀ W', RL W' B d L → Calls Tryd.prog 29 #[.slice B L.length d, .int .i64 x.k] W' fun e w' => ∃ B' d', e = .returned (.slice B' (woL L x.k).length d') ∧ Keep W' w' ∧ RL w' B' d' (woL L x.k)) := fun W' h => rrem_fn h hT.ok (by omega) x.k
  obtain ⟨M, hM⟩ : ∃ M, M = woL L x.k := ⟨_, rfl⟩
  rw [← hM] at cR cT ⊢
  obtain ⟨q, hq⟩ : ∃ q, q = M.length := ⟨_, rfl⟩
  rw [← hq] at cR ⊢
  have hn1 := hl
  obtain ⟨n, hn⟩ : ∃ n, n = L.length := ⟨_, rfl⟩
  obtain ⟨u, hu⟩ : ∃ u, u = (getL L x.k).v := ⟨_, rfl⟩
  obtain ⟨r, hr⟩ : ∃ r, r = findN (row L) x.k L.length := ⟨_, rfl⟩
  rw [← hr] at cF
  rw [← hn] at cF hn1 cR ⊢
  rw [← hu] at cT
  have x0 := X.e0
  have x1 := X.e1
  replace cF := Lib.hid cF
  replace KW := Lib.hid KW
  replace TW := Lib.hid TW
  replace hM := Lib.hid hM
  replace hq := Lib.hid hq
  rcases fc with ⟨f1, f2⟩ | ⟨j, j1, f1, j2, f2, j3⟩
  · have hr0 : r = -1 := hr.trans f1
    subst hr0
    rw [decide_eq_false f2] at cT
    have hu0 : u = 0 := by rw [hu, get_none f2]; rfl
    subst hu0
    replace cT := Lib.hid cT
    replace f1 := Lib.hid f1
    replace f2 := Lib.hid f2
    replace hn := Lib.hid hn
    replace hu := Lib.hid hu
    replace hr := Lib.hid hr
    have RW2 : Hid (RL W _ d _) := RW
    clear hT hR RW X hl
    go_enter Tryd.func10, Tryd.ntmps10
    go_wp2_with fail
    rw [← hW]
    replace hW := Lib.hid hW
    refine cF.out.mono ?_
    rintro e w1 ⟨rfl, rfl⟩
    clear cF
    go_wp2_with fail
    have c2 := Lib.hid (cT.out W (Keep.refl _))
    refine c2.out.mono ?_
    rintro e w2 ⟨rfl, T2, F2⟩
    have R2 : Hid (RL w2 _ d _) := RW2.out.fr TW.out F2
    have y0 := F2.cell x0 (fun e => by have := TW.out.plt; have h3 := TI.off_block TW.out x0; exact h3 e)
    replace T2 := Lib.hid T2
    replace F2 := Lib.hid F2
    have c3 := Lib.hid (cR.out w2 R2.out)
    clear c2
    go_wp2_with fail
    refine c3.out.mono ?_
    rintro e w3 ⟨B', d', rfl, k3, R3⟩
    have T3 : Hid (TI w3 s p m M) := T2.out.keep k3
    have F3 : Hid (Fr (· = m) w w3) := (Fr.after KW.out F2.out).keep k3
    replace k3 := Lib.hid k3
    replace R3 := Lib.hid R3
    clear c3
    go_wp2
    go_ret2
    exact ⟨B', d', rfl, T3.out, by simpa using R3.out, F3.out⟩
  · have hr0 : r = (j : Int) := hr.trans f1
    subst hr0
    rw [decide_eq_true f2] at cT
    obtain ⟨b, off, hB, ca⟩ := RW.rd.adr (by omega)
    subst hB
    have hjn : j < n := by rw [hn]; exact j1
    have q1 := atR b off n d j hjn
    have z1 := (ca j j1).e1
    have hu0 : (row L j).v = u := by rw [hu, j3]
    rw [hu0] at z1
    clear ca
    replace hu0 := Lib.hid hu0
    replace j3 := Lib.hid j3
    replace j2 := Lib.hid j2
    replace j1 := Lib.hid j1
    replace cT := Lib.hid cT
    replace f1 := Lib.hid f1
    replace f2 := Lib.hid f2
    replace hn := Lib.hid hn
    replace hu := Lib.hid hu
    replace hr := Lib.hid hr
    have RW2 : Hid (RL W _ d _) := RW
    clear hT hR RW X hl
    go_enter Tryd.func10, Tryd.ntmps10
    go_wp2_with fail
    rw [← hW]
    replace hW := Lib.hid hW
    refine cF.out.mono ?_
    rintro e w1 ⟨rfl, rfl⟩
    clear cF
    go_wp2_with fail
    have c2 := Lib.hid (cT.out W (Keep.refl _))
    refine c2.out.mono ?_
    rintro e w2 ⟨rfl, T2, F2⟩
    have R2 : Hid (RL w2 _ d _) := RW2.out.fr TW.out F2
    have y0 := F2.cell x0 (fun e => by have := TW.out.plt; have h3 := TI.off_block TW.out x0; exact h3 e)
    replace T2 := Lib.hid T2
    replace F2 := Lib.hid F2
    have c3 := Lib.hid (cR.out w2 R2.out)
    clear c2
    go_wp2_with fail
    refine c3.out.mono ?_
    rintro e w3 ⟨B', d', rfl, k3, R3⟩
    have T3 : Hid (TI w3 s p m M) := T2.out.keep k3
    have F3 : Hid (Fr (· = m) w w3) := (Fr.after KW.out F2.out).keep k3
    replace k3 := Lib.hid k3
    replace R3 := Lib.hid R3
    clear c3
    go_wp2
    go_ret2
    exact ⟨B', d', rfl, T3.out, by simpa using R3.out, F3.out⟩
set_option maxRecDepth 100000 in
set_option maxHeartbeats 8000000 in
theorem play_get (K : Int) (h0 : ¬ K = 0) (h1 : ¬ K = 1) (h2 : ¬ K = 2) (hT : TI w s p m L) (hR : RL w B d L) (hl : L.length ≤ 100) (x : PrV) :
    Calls Tryd.prog 10 #[.pointer (some ⟨p, 0, none⟩), .slice B L.length d, .int .i64 s, .agg #[.int .i64 K, .int .i64 x.k, .int .i64 x.v]] w fun e w' => ∃ B' d', e = .returned (.tuple #[.slice B' (L).length d', .bool true]) ∧ After w w' s p m B' d' (L) := by
  obtain ⟨KW, V, X⟩ := laid2 w (K) x
  obtain ⟨W, hW⟩ : ∃ W, W = (w.alloc (.cells #[.int .i64 K, .int .i64 x.k, .int .i64 x.v] 32)).alloc (.cells #[.int .i64 x.k, .int .i64 x.v] 30) := ⟨_, rfl⟩
  rw [← hW] at KW V X
  have RW := hR.keep KW
  have TW := hT.keep KW
  have cF := rfind_fn B L.length d (row L) x.k W RW.rd
  have fc := find_cases (row L) x.k L.length
  rw [lst_row] at fc
  have cT : Hid (Calls Tryd.prog 25 #[.pointer (some ⟨p, 0, none⟩), .int .i64 x.k] W fun e w' => e = .returned (.tuple #[.int .i64 (getL L x.k).v, .bool (decide (x.k ∈ keys L))]) ∧ W = w') := tget_fn TW x.k
  have hn1 := hl
  obtain ⟨n, hn⟩ : ∃ n, n = L.length := ⟨_, rfl⟩
  obtain ⟨u, hu⟩ : ∃ u, u = (getL L x.k).v := ⟨_, rfl⟩
  obtain ⟨r, hr⟩ : ∃ r, r = findN (row L) x.k L.length := ⟨_, rfl⟩
  rw [← hr] at cF
  rw [← hn] at cF hn1 ⊢
  rw [← hu] at cT
  have x0 := X.e0
  have x1 := X.e1
  replace cF := Lib.hid cF
  replace KW := Lib.hid KW
  replace TW := Lib.hid TW
  rcases fc with ⟨f1, f2⟩ | ⟨j, j1, f1, j2, f2, j3⟩
  · have hr0 : r = -1 := hr.trans f1
    subst hr0
    rw [decide_eq_false f2] at cT
    have hu0 : u = 0 := by rw [hu, get_none f2]; rfl
    subst hu0
    replace cT := Lib.hid cT
    replace f1 := Lib.hid f1
    replace f2 := Lib.hid f2
    replace hn := Lib.hid hn
    replace hu := Lib.hid hu
    replace hr := Lib.hid hr
    have RW2 : Hid (RL W _ d _) := RW
    clear hT hR RW X hl
    go_enter Tryd.func10, Tryd.ntmps10
    go_wp2_with fail
    rw [← hW]
    replace hW := Lib.hid hW
    refine cF.out.mono ?_
    rintro e w1 ⟨rfl, rfl⟩
    clear cF
    go_wp2_with fail
    refine cT.out.mono ?_
    rintro e w2 ⟨rfl, rfl⟩
    go_wp2
    go_ret2
    exact ⟨_, d, rfl, TW.out, RW2.out, Fr.of KW.out⟩
  · have hr0 : r = (j : Int) := hr.trans f1
    subst hr0
    rw [decide_eq_true f2] at cT
    obtain ⟨b, off, hB, ca⟩ := RW.rd.adr (by omega)
    subst hB
    have hjn : j < n := by rw [hn]; exact j1
    have q1 := atR b off n d j hjn
    have z1 := (ca j j1).e1
    have hu0 : (row L j).v = u := by rw [hu, j3]
    rw [hu0] at z1
    clear ca
    replace hu0 := Lib.hid hu0
    replace j3 := Lib.hid j3
    replace j2 := Lib.hid j2
    replace j1 := Lib.hid j1
    replace cT := Lib.hid cT
    replace f1 := Lib.hid f1
    replace f2 := Lib.hid f2
    replace hn := Lib.hid hn
    replace hu := Lib.hid hu
    replace hr := Lib.hid hr
    have RW2 : Hid (RL W _ d _) := RW
    clear hT hR RW X hl
    go_enter Tryd.func10, Tryd.ntmps10
    go_wp2_with fail
    rw [← hW]
    replace hW := Lib.hid hW
    refine cF.out.mono ?_
    rintro e w1 ⟨rfl, rfl⟩
    clear cF
    go_wp2_with fail
    refine cT.out.mono ?_
    rintro e w2 ⟨rfl, rfl⟩
    go_wp2
    go_ret2
    exact ⟨_, d, rfl, TW.out, RW2.out, Fr.of KW.out⟩
end
end Go.Proofs.YtfjghbgmjpdpbaaDoor.T10
