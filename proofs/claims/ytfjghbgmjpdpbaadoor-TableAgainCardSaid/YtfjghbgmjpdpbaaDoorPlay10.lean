/-
  The law's play: an operation on the table and on the reference's list. Condition: errors.errorType holds its own.
-/
import Derived.Test.YtfjghbgmjpdpbaaDoorAwake10
namespace Go.Proofs.YtfjghbgmjpdpbaaDoor.T10
open Go.RowKit Go.Sort Go.Lib

def opL (k : Int) (L : List PrV) (s : Int) (x : PrV) : List PrV := if k = 0 then addL L s x else if k = 1 then repL L x else if k = 2 then woL L x.k else L
/-- What an operation leaves. -/
def After (w w' : World) (s : Int) (p m : Nat) (B : Option Addr) (d : Nat) (L : List PrV) : Prop := TI w' s p m L ∧ RL w' B d L ∧ Fr (· = m) w w'
section
variable {w : World} {s : Int} {p m : Nat} {L : List PrV} {B : Option Addr} {d : Nat}
/-- The two blocks that play lays. -/
theorem laid2 (w : World) (k : Int) (x : PrV) : Keep w ((w.alloc (.cells #[.int .i64 k, .int .i64 x.k, .int .i64 x.v] 32)).alloc (.cells #[.int .i64 x.k, .int .i64 x.v] 30)) ∧
    ((w.alloc (.cells #[.int .i64 k, .int .i64 x.k, .int .i64 x.v] 32)).alloc (.cells #[.int .i64 x.k, .int .i64 x.v] 30)).cell? ⟨w.heap.size, 0, none⟩ = some (.int .i64 k) ∧
    Cel2 ((w.alloc (.cells #[.int .i64 k, .int .i64 x.k, .int .i64 x.v] 32)).alloc (.cells #[.int .i64 x.k, .int .i64 x.v] 30)) (w.heap.size + 1) 0 x := by
  refine ⟨(Keep.one _ _).alloc _, (Keep.one _ _).cell (by rw [World.cell?_alloc_new]; rfl), ?_⟩
  have := cel_laid (w.alloc (.cells #[.int .i64 k, .int .i64 x.k, .int .i64 x.v] 32)) x 30 _ rfl
  rwa [World.size_alloc] at this
theorem TI.off_block {a : Addr} {v : Value} (h : TI w s p m L) (hc : w.cell? a = some v) : ¬ a.block = m := fun e => by
  obtain ⟨l, t, _⟩ := h.ex
  obtain ⟨o, ho, es, c', rfl, _⟩ := t.mp
  simp [World.cell?, e, ho] at hc
theorem errT_fr {w' : World} (h : ErrT w) (t : TI w s p m L) (f : Fr (· = m) w w') : ErrT w' := f.cell h (t.off_block h)
set_option maxRecDepth 100000 in
set_option maxHeartbeats 8000000 in
theorem play_add (hT : TI w s p m L) (hR : RL w B d L) (hl : L.length ≤ 100) (hg : ErrT w) (x : PrV) (hx : PrOk x) :
    Calls Tryd.prog 10 #[.pointer (some ⟨p, 0, none⟩), .slice B L.length d, .int .i64 s, .agg #[.int .i64 0, .int .i64 x.k, .int .i64 x.v]] w fun e w' => ∃ B' d', e = .returned (.tuple #[.slice B' (addL L s x).length d', .bool true]) ∧ After w w' s p m B' d' (addL L s x) := by
  obtain ⟨KW, _, X⟩ := laid2 w 0 x
  obtain ⟨W, hW⟩ : ∃ W, W = (w.alloc (.cells #[.int .i64 0, .int .i64 x.k, .int .i64 x.v] 32)).alloc (.cells #[.int .i64 x.k, .int .i64 x.v] 30) := ⟨_, rfl⟩
  rw [← hW] at KW X
  have cR := radd_fn (s := s) (hR.keep KW) hT.srt (by omega) hT.len x hx
  have cT : Hid (∀ W', Keep W W' → Calls Tryd.prog 21 #[.pointer (some ⟨p, 0, none⟩), .int .i64 x.k, .int .i64 x.v] W' fun e w' => e = .returned (errC (addC L s x)) ∧ TI w' s p m (addL L s x) ∧ Fr (· = m) W' w') := fun W' k => tadd_fn (hT.keep (KW.trans k)) x hx
  have mlt : Hid (m < w.heap.size) := hT.mlt
  have hT' : Hid (∀ W', Keep W W' → TI W' s p m L) := fun W' k => hT.keep (KW.trans k)
  unfold PrV.val at cR
  obtain ⟨M, hM⟩ : ∃ M, M = addL L s x := ⟨_, rfl⟩
  obtain ⟨c, hc⟩ : ∃ c, c = addC L s x := ⟨_, rfl⟩
  obtain ⟨n, hn⟩ : ∃ n, n = L.length := ⟨_, rfl⟩
  rw [← hM, ← hc] at cR cT
  rw [← hM]
  rw [← hn] at cR ⊢
  obtain ⟨q, hq⟩ : ∃ q, q = M.length := ⟨_, rfl⟩
  rw [← hq] at cR ⊢
  obtain ⟨ev, hev⟩ : ∃ ev, ev = errC c := ⟨_, rfl⟩
  rw [← hev] at cT
  have cC : Hid (∀ W', ErrT W' → Calls Tryd.prog 19 #[ev] W' fun e w' => e = .returned (.int .i64 c) ∧ Keep W' w') := fun W' h => by rw [hev]; exact code_fn c W' h
  have hgW : Hid (ErrT W) := hg.keep KW
  replace hM := Lib.hid hM
  replace hc := Lib.hid hc
  replace hn := Lib.hid hn
  replace hq := Lib.hid hq
  replace hev := Lib.hid hev
  replace cR := Lib.hid cR
  replace KW := Lib.hid KW
  replace hx := Lib.hid hx
  have x0 := X.e0
  have x1 := X.e1
  clear hT hR hg X
  go_enter Tryd.func10, Tryd.ntmps10
  go_wp2_with fail
  rw [← hW]
  replace hW := Lib.hid hW
  refine cR.out.mono ?_
  rintro e w1 ⟨B', d', rfl, k1, R1⟩
  have y0 := k1.cell x0
  have y1 := k1.cell x1
  have t1 : Hid (TI w1 s p m L) := hT'.out w1 k1
  replace R1 := Lib.hid R1
  have c2 := Lib.hid (cT.out w1 k1)
  replace k1 := Lib.hid k1
  clear cR x0 x1
  go_wp2_with fail
  refine c2.out.mono ?_
  rintro e w2 ⟨rfl, T2, F2⟩
  have R2 : Hid (RL w2 B' d' M) := R1.out.fr t1.out F2
  have g2 : Hid (ErrT w2) := errT_fr (hgW.out.keep k1.out) t1.out F2
  replace T2 := Lib.hid T2
  replace F2 := Lib.hid F2
  have c3 := Lib.hid (cC.out w2 g2.out)
  clear c2 y0 y1
  go_wp2_with fail
  refine c3.out.mono ?_
  rintro e w3 ⟨rfl, k3⟩
  have T3 : Hid (TI w3 s p m M) := T2.out.keep k3
  have R3 : Hid (RL w3 B' d' M) := R2.out.keep k3
  have F3 : Hid (Fr (· = m) w w3) := (Fr.after (KW.out.trans k1.out) F2.out).keep k3
  replace k3 := Lib.hid k3
  clear c3
  go_wp2
  go_ret2
  exact ⟨B', d', rfl, T3.out, R3.out, F3.out⟩
end
end Go.Proofs.YtfjghbgmjpdpbaaDoor.T10
