/-
  The texts of located errors. Conditions: the tables hold their own; the base's text is known; the whole text takes at most 2^40 bytes.
-/
import Derived.Test.YtflkeabjcbjkhaaDoorWrite
import Derived.Test.YtflkeabjcbjkhaaDoorShelf
namespace Go.Proofs.YtflkeabjcbjkhaaDoor
open Go.RowKit Go.Extern.Stop Go.Stop Go.Extern

theorem Tryd.toLocLoc (p : Option Addr) (w : World) : (Instr.typeAssert (.iface 58 (.pointer p)) 27 58 true).run Tryd.prog w = .ok (.tuple #[.pointer p, .bool true]) w := by kernel_rfl
theorem Tryd.toLocFault (v : Value) (w : World) : (Instr.typeAssert (.iface 55 v) 27 58 true).run Tryd.prog w = .ok (.tuple #[.pointer none, .bool false]) w := by kernel_rfl
theorem Tryd.toLocCode (v : Value) (w : World) : (Instr.typeAssert (.iface 50 v) 27 58 true).run Tryd.prog w = .ok (.tuple #[.pointer none, .bool false]) w := by kernel_rfl
theorem Tryd.mErrFault (x y : Int) (w : World) : (Go.method 254 55 (.agg #[.int .i64 x, .int .i64 y]) "Error").run Tryd.prog w = .ok (93, .agg #[.int .i64 x, .int .i64 y]) w := by kernel_rfl
theorem Tryd.mErrCode (x : Int) (w : World) : (Go.method 254 50 (.int .i64 x) "Error").run Tryd.prog w = .ok (78, .int .i64 x) w := by kernel_rfl
theorem Tryd.mErrLoc (a : Addr) (w : World) : (Go.method 254 58 (.pointer (some a)) "Error").run Tryd.prog w = .ok (95, .pointer (some a)) w := by kernel_rfl

/-- From the world W0 on a code's text is bt. -/
def Says (c : Int) (bt : ByteArray) (W0 : World) : Prop := ∀ W, Keep W0 W → Calls Tryd.prog 78 #[.int .i64 c] W fun e w' => e = .returned (.string bt) ∧ Keep W w'
theorem Says.keep {c : Int} {bt : ByteArray} {w w' : World} (h : Says c bt w) (k : Keep w w') : Says c bt w' := fun W hW => h W (k.trans hW)
theorem faultError (x y : Int) (bt : ByteArray) (w : World) (h : Says x bt w) : Calls Tryd.prog 93 #[.agg #[.int .i64 x, .int .i64 y]] w fun e w' => e = .returned (.string bt) ∧ Keep w w' := by
  have h1 := Lib.hid (h _ (Keep.one w (.cells #[.int .i64 x, .int .i64 y] 55)))
  clear h
  go_enter Tryd.func93, Tryd.ntmps93
  go_wp2_with (go_at_call 78; refine h1.out.mono ?_; rintro e w' ⟨rfl, hk⟩)
  go_ret
  exact ⟨rfl, (Keep.one _ _).trans hk⟩

/-- The text of a chain. -/
def chainText (bt : List UInt8) : List Int → List UInt8
  | [] => bt
  | k :: ks => (ttl k).data.toList ++ ([58, 32] ++ chainText bt ks)
theorem chainText_cons (bt : List UInt8) (k : Int) (ks : List Int) : chainText bt (k :: ks) = (ttl k).data.toList ++ ([58, 32] ++ chainText bt ks) := rfl
/-- What is written, with what is to come, is the whole. -/
def Rest (whole bt : List UInt8) (done : List UInt8) (ks : List Int) : Prop := done ++ ([58, 32] ++ chainText bt ks) = whole
theorem Rest.next {whole bt done : List UInt8} {k : Int} {ks : List Int} (h : Rest whole bt done (k :: ks)) : Rest whole bt ((done ++ [58, 32]) ++ (ttl k).data.toList) ks := by
  unfold Rest at *
  rw [← h, chainText_cons]
  simp
theorem Rest.len {whole bt done : List UInt8} {ks : List Int} (h : Rest whole bt done ks) : done.length + 2 + (chainText bt ks).length = whole.length := by
  rw [← h]; simp; omega
theorem len2 (s : ByteArray) : s.data.toList.length = s.size := by
  show s.data.toList.length = s.data.size
  simp
theorem Bld.keep {B b : Nat} {l : List UInt8} {w w' : World} (h : Bld B b l w) (k : Keep w w') : Bld B b l w' := by
  have go : ∀ p, Lib.BuilderAt 136 5 B b p (Lib.byteCells l) w → Lib.BuilderAt 136 5 B b p (Lib.byteCells l) w' := by
    rintro p ⟨hB, v, hb, hown, hne⟩
    exact ⟨hB, v, k.block hb, hown.kept k.grown (Classical.em (v.ownBlock = none)), hne⟩
  rcases h with h | h
  · exact .inl (go _ h)
  · exact .inr (go _ h)
def RetStr (B : Nat) (w : World) (l : List UInt8) (e : Ending) (w' : World) : Prop := e = .returned (.string ⟨l.toArray⟩) ∧ Below B w w'
theorem string_fn (B b : Nat) (l : List UInt8) (w : World) (h : Bld B b l w) (hB : B ≤ w.heap.size) : Calls Tryd.prog 99 #[.pointer (some ⟨b, 0, none⟩)] w (RetStr B w l) :=
  Tryd.Builder_String_any B b l w h hB
set_option maxRecDepth 100000 in
set_option maxHeartbeats 4000000 in
theorem locError_Fault (k0 : Int) (ks0 : List Int) (x y : Int) (a0 : Nat) (v0 : Value) (w : World) (bt : ByteArray) (hv : Vars w)
    (h0 : w.cell? ⟨a0, 0, none⟩ = some (.int .i64 k0)) (h1 : w.cell? ⟨a0, 0 + 1, none⟩ = some v0) (hch : Chain w ks0 (.fault x y) v0) (hs : Says x bt w)
    (hlen : (chainText bt.data.toList (k0 :: ks0)).length ≤ 1099511627776) :
    Calls Tryd.prog 95 #[.pointer (some ⟨a0, 0, none⟩)] w fun e w' => e = .returned (.string ⟨(chainText bt.data.toList (k0 :: ks0)).toArray⟩) ∧ Keep w w' := by
  have hb0 := Bld.fresh w (Nat.le_refl _)
  have hbs : w.heap.size ≤ (w.alloc (.cells #[.pointer none, .slice none 0 0] 136)).heap.size := by simp
  have hk1 := Keep.one w (.cells #[.pointer none, .slice none 0 0] 136)
  have ht := Lib.hid (title_fn k0 _ (hv.keep hk1))
  have hw := Lib.hid (write_fn w.heap.size w.heap.size [] (ttl k0) _ hb0 (by have := len2 (ttl k0); rw [chainText_cons] at hlen; simp at hlen; simp; omega) hbs)
  have h0a := hk1.cell h0
  obtain ⟨t0, x0, rfl⟩ := hch.iface
  have hvH := Lib.hid hv
  have hchH := Lib.hid hch
  have hsH := Lib.hid hs
  have hlH := Lib.hid hlen
  have h1H := Lib.hid h1
  clear hb0 hbs hv hch hs hlen h1 h0
  have f1 := Tryd.toLocLoc
  have f2 := Tryd.toLocFault
  have f3 := Tryd.mErrFault
  go_enter Tryd.func95, Tryd.ntmps95
  go_wp2_with (first
    | (go_at_call 98; refine ht.out.mono ?_; rintro e w' ⟨rfl, rfl⟩)
    | (go_at_call 97; refine hw.out.mono ?_; rintro e w1 ⟨rfl, hbl, hbe⟩; have hkw := Lib.hid (show Keep w w1 from Below.trans hk1 hbe); have h1' := hkw.out.cell h1H.out))
  replace hbl := Lib.hid hbl
  replace hbe := Lib.hid hbe
  have hrest : Hid (Rest (chainText bt.data.toList (k0 :: ks0)) bt.data.toList ((ttl k0).data.toList) ks0) := rfl
  go_loopg [4] ks0.length (fun g v wr => ∃ ks done, Chain w ks (.fault x y) v ∧ g = ks.length ∧ Hid (Keep w wr) ∧ Hid (Bld w.heap.size w.heap.size done wr) ∧ Hid (Rest (chainText bt.data.toList (k0 :: ks0)) bt.data.toList done ks))
  case atStart => exact ⟨ks0, _, hchH.out, rfl, hkw, hbl, hrest⟩
  case round =>
    clear hkw hbl hbe hrest h1' h0a hk1 ht hw
    obtain ⟨ks, done, hc1, rfl, hkw, hbl, hrest⟩ := hrel
    have hsz := hkw.out.size
    have hln := hrest.out.len
    have hle := hlH.out
    have hbt := len2 bt
    rcases hc1.open with ⟨rfl, rfl⟩ | ⟨k, ks, o, v, rfl, rfl, h1, h2, hc2⟩
    · have hw1 := Lib.hid (write_fn w.heap.size w.heap.size done ⟨#[58, 32]⟩ wr hbl.out (by show done.length + 2 ≤ _; omega) hsz)
      have hlast : (done ++ [58, 32]) ++ bt.data.toList = chainText bt.data.toList (k0 :: ks0) := by
        have := hrest.out
        unfold Rest at this
        rw [← this]
        simp [chainText]
      replace hlast := Lib.hid hlast
      have hbd : done.length + 2 + bt.size ≤ 1099511627776 := by
        rw [show chainText bt.data.toList [] = bt.data.toList from rfl] at hln
        omega
      replace hbd := Lib.hid hbd
      clear hsz hln hle hbt hc1
      unfold Base.val
      go_wp2_with fail
      refine hw1.out.mono ?_
      rintro e w2 ⟨rfl, hbl2, hbe2⟩
      have hkw2 : Hid (Keep w w2) := Below.trans hkw.out hbe2
      have her := Lib.hid (faultError x y bt w2 (hsH.out.keep hkw2.out))
      replace hbl2 := Lib.hid hbl2
      replace hbe2 := Lib.hid hbe2
      go_wp2_with fail
      refine her.out.mono ?_
      rintro e w3 ⟨rfl, hk3⟩
      have hbl3 := hbl2.out.keep hk3
      have hkw3 := hkw2.out.trans hk3
      have hw3 := Lib.hid (write_fn w.heap.size w.heap.size (done ++ [58, 32]) bt w3 hbl3 (by have := hbd.out; simp; omega) hkw3.size)
      replace hbl3 := Lib.hid hbl3
      replace hkw3 := Lib.hid hkw3
      replace hk3 := Lib.hid hk3
      go_wp2_with fail
      refine hw3.out.mono ?_
      rintro e w4 ⟨rfl, hbl4, hbe4⟩
      have hkw4 : Hid (Keep w w4) := Below.trans hkw3.out hbe4
      have hst := Lib.hid (string_fn _ _ _ w4 hbl4 hkw4.out.size)
      replace hbl4 := Lib.hid hbl4
      replace hbe4 := Lib.hid hbe4
      go_wp2_with fail
      refine hst.out.mono ?_
      rintro e w5 ⟨rfl, hbe5⟩
      rw [hlast.out]
      have hkw5 : Hid (Keep w w5) := Below.trans hkw4.out hbe5
      replace hbe5 := Lib.hid hbe5
      go_wp2
      go_ret
      exact ⟨rfl, hkw5.out⟩
    · have hw1 := Lib.hid (write_fn w.heap.size w.heap.size done ⟨#[58, 32]⟩ wr hbl.out (by show done.length + 2 ≤ _; omega) hsz)
      obtain ⟨tv, xv, rfl⟩ := hc2.iface
      have hc3 := Lib.hid hc2
      have hbd : done.length + 2 + (ttl k).size ≤ 1099511627776 := by
        have := len2 (ttl k)
        rw [chainText_cons] at hln
        simp at hln
        omega
      replace hbd := Lib.hid hbd
      have h1H' := Lib.hid h1
      have h2H' := Lib.hid h2
      clear hsz hln hle hbt hc1 h1 h2 hc2
      go_wp2_with fail
      refine hw1.out.mono ?_
      rintro e w2 ⟨rfl, hbl2, hbe2⟩
      have hkw2 : Hid (Keep w w2) := Below.trans hkw.out hbe2
      have g1 := hkw2.out.cell h1H'.out
      have hti := Lib.hid (title_fn k w2 (hvH.out.keep hkw2.out))
      have hw2 := Lib.hid (write_fn w.heap.size w.heap.size (done ++ [58, 32]) (ttl k) w2 hbl2 (by have := hbd.out; simp; omega) hkw2.out.size)
      replace hbl2 := Lib.hid hbl2
      replace hbe2 := Lib.hid hbe2
      go_wp2_with fail
      refine hti.out.mono ?_
      rintro e w3 ⟨rfl, rfl⟩
      go_wp2_with fail
      refine hw2.out.mono ?_
      rintro e w3 ⟨rfl, hbl3, hbe3⟩
      have hkw3 : Hid (Keep w w3) := Below.trans hkw2.out hbe3
      have g2 := hkw3.out.cell h2H'.out
      replace hbl3 := Lib.hid hbl3
      replace hbe3 := Lib.hid hbe3
      go_wp2
      go_roundg ks.length
      case measure => simp
      case rel => exact ⟨ks, _, hc3.out, rfl, hkw3, hbl3, hrest.out.next⟩
set_option maxRecDepth 100000 in
set_option maxHeartbeats 4000000 in
theorem locError_Code (k0 : Int) (ks0 : List Int) (x : Int) (a0 : Nat) (v0 : Value) (w : World) (bt : ByteArray) (hv : Vars w)
    (h0 : w.cell? ⟨a0, 0, none⟩ = some (.int .i64 k0)) (h1 : w.cell? ⟨a0, 0 + 1, none⟩ = some v0) (hch : Chain w ks0 (.code x) v0) (hs : Says x bt w)
    (hlen : (chainText bt.data.toList (k0 :: ks0)).length ≤ 1099511627776) :
    Calls Tryd.prog 95 #[.pointer (some ⟨a0, 0, none⟩)] w fun e w' => e = .returned (.string ⟨(chainText bt.data.toList (k0 :: ks0)).toArray⟩) ∧ Keep w w' := by
  have hb0 := Bld.fresh w (Nat.le_refl _)
  have hbs : w.heap.size ≤ (w.alloc (.cells #[.pointer none, .slice none 0 0] 136)).heap.size := by simp
  have hk1 := Keep.one w (.cells #[.pointer none, .slice none 0 0] 136)
  have ht := Lib.hid (title_fn k0 _ (hv.keep hk1))
  have hw := Lib.hid (write_fn w.heap.size w.heap.size [] (ttl k0) _ hb0 (by have := len2 (ttl k0); rw [chainText_cons] at hlen; simp at hlen; simp; omega) hbs)
  have h0a := hk1.cell h0
  obtain ⟨t0, x0, rfl⟩ := hch.iface
  have hvH := Lib.hid hv
  have hchH := Lib.hid hch
  have hsH := Lib.hid hs
  have hlH := Lib.hid hlen
  have h1H := Lib.hid h1
  clear hb0 hbs hv hch hs hlen h1 h0
  have f1 := Tryd.toLocLoc
  have f2 := Tryd.toLocCode
  have f3 := Tryd.mErrCode
  go_enter Tryd.func95, Tryd.ntmps95
  go_wp2_with (first
    | (go_at_call 98; refine ht.out.mono ?_; rintro e w' ⟨rfl, rfl⟩)
    | (go_at_call 97; refine hw.out.mono ?_; rintro e w1 ⟨rfl, hbl, hbe⟩; have hkw := Lib.hid (show Keep w w1 from Below.trans hk1 hbe); have h1' := hkw.out.cell h1H.out))
  replace hbl := Lib.hid hbl
  replace hbe := Lib.hid hbe
  have hrest : Hid (Rest (chainText bt.data.toList (k0 :: ks0)) bt.data.toList ((ttl k0).data.toList) ks0) := rfl
  go_loopg [4] ks0.length (fun g v wr => ∃ ks done, Chain w ks (.code x) v ∧ g = ks.length ∧ Hid (Keep w wr) ∧ Hid (Bld w.heap.size w.heap.size done wr) ∧ Hid (Rest (chainText bt.data.toList (k0 :: ks0)) bt.data.toList done ks))
  case atStart => exact ⟨ks0, _, hchH.out, rfl, hkw, hbl, hrest⟩
  case round =>
    clear hkw hbl hbe hrest h1' h0a hk1 ht hw
    obtain ⟨ks, done, hc1, rfl, hkw, hbl, hrest⟩ := hrel
    have hsz := hkw.out.size
    have hln := hrest.out.len
    have hle := hlH.out
    have hbt := len2 bt
    rcases hc1.open with ⟨rfl, rfl⟩ | ⟨k, ks, o, v, rfl, rfl, h1, h2, hc2⟩
    · have hw1 := Lib.hid (write_fn w.heap.size w.heap.size done ⟨#[58, 32]⟩ wr hbl.out (by show done.length + 2 ≤ _; omega) hsz)
      have hlast : (done ++ [58, 32]) ++ bt.data.toList = chainText bt.data.toList (k0 :: ks0) := by
        have := hrest.out
        unfold Rest at this
        rw [← this]
        simp [chainText]
      replace hlast := Lib.hid hlast
      have hbd : done.length + 2 + bt.size ≤ 1099511627776 := by
        rw [show chainText bt.data.toList [] = bt.data.toList from rfl] at hln
        omega
      replace hbd := Lib.hid hbd
      clear hsz hln hle hbt hc1
      unfold Base.val
      go_wp2_with fail
      refine hw1.out.mono ?_
      rintro e w2 ⟨rfl, hbl2, hbe2⟩
      have hkw2 : Hid (Keep w w2) := Below.trans hkw.out hbe2
      have her := Lib.hid (hsH.out w2 hkw2.out)
      replace hbl2 := Lib.hid hbl2
      replace hbe2 := Lib.hid hbe2
      go_wp2_with fail
      refine her.out.mono ?_
      rintro e w3 ⟨rfl, hk3⟩
      have hbl3 := hbl2.out.keep hk3
      have hkw3 := hkw2.out.trans hk3
      have hw3 := Lib.hid (write_fn w.heap.size w.heap.size (done ++ [58, 32]) bt w3 hbl3 (by have := hbd.out; simp; omega) hkw3.size)
      replace hbl3 := Lib.hid hbl3
      replace hkw3 := Lib.hid hkw3
      replace hk3 := Lib.hid hk3
      go_wp2_with fail
      refine hw3.out.mono ?_
      rintro e w4 ⟨rfl, hbl4, hbe4⟩
      have hkw4 : Hid (Keep w w4) := Below.trans hkw3.out hbe4
      have hst := Lib.hid (string_fn _ _ _ w4 hbl4 hkw4.out.size)
      replace hbl4 := Lib.hid hbl4
      replace hbe4 := Lib.hid hbe4
      go_wp2_with fail
      refine hst.out.mono ?_
      rintro e w5 ⟨rfl, hbe5⟩
      rw [hlast.out]
      have hkw5 : Hid (Keep w w5) := Below.trans hkw4.out hbe5
      replace hbe5 := Lib.hid hbe5
      go_wp2
      go_ret
      exact ⟨rfl, hkw5.out⟩
    · have hw1 := Lib.hid (write_fn w.heap.size w.heap.size done ⟨#[58, 32]⟩ wr hbl.out (by show done.length + 2 ≤ _; omega) hsz)
      obtain ⟨tv, xv, rfl⟩ := hc2.iface
      have hc3 := Lib.hid hc2
      have hbd : done.length + 2 + (ttl k).size ≤ 1099511627776 := by
        have := len2 (ttl k)
        rw [chainText_cons] at hln
        simp at hln
        omega
      replace hbd := Lib.hid hbd
      have h1H' := Lib.hid h1
      have h2H' := Lib.hid h2
      clear hsz hln hle hbt hc1 h1 h2 hc2
      go_wp2_with fail
      refine hw1.out.mono ?_
      rintro e w2 ⟨rfl, hbl2, hbe2⟩
      have hkw2 : Hid (Keep w w2) := Below.trans hkw.out hbe2
      have g1 := hkw2.out.cell h1H'.out
      have hti := Lib.hid (title_fn k w2 (hvH.out.keep hkw2.out))
      have hw2 := Lib.hid (write_fn w.heap.size w.heap.size (done ++ [58, 32]) (ttl k) w2 hbl2 (by have := hbd.out; simp; omega) hkw2.out.size)
      replace hbl2 := Lib.hid hbl2
      replace hbe2 := Lib.hid hbe2
      go_wp2_with fail
      refine hti.out.mono ?_
      rintro e w3 ⟨rfl, rfl⟩
      go_wp2_with fail
      refine hw2.out.mono ?_
      rintro e w3 ⟨rfl, hbl3, hbe3⟩
      have hkw3 : Hid (Keep w w3) := Below.trans hkw2.out hbe3
      have g2 := hkw3.out.cell h2H'.out
      replace hbl3 := Lib.hid hbl3
      replace hbe3 := Lib.hid hbe3
      go_wp2
      go_roundg ks.length
      case measure => simp
      case rel => exact ⟨ks, _, hc3.out, rfl, hkw3, hbl3, hrest.out.next⟩
end Go.Proofs.YtflkeabjcbjkhaaDoor
