/-
  slices.SortStableFunc at pods: the row holds its elements in the stable order. Condition: fewer than 2^62 elements.
-/
import Derived.Test.YtpkpmoiekjhdnaaDoorBig6
namespace Go.Proofs.YtpkpmoiekjhdnaaDoor
open Go.Shelf Go.RowKit Go.Lib Go.Sort
variable {P : Program} {k : Nat}

theorem sins_fn (L : SLy P k) (LI : SlLaysF0.n20 P insRen) (enc : Nat → List Value) (cf : Nat → Nat → Int) (g : Nat) (cb : Array Value) (hO : SWO (ltOf cf)) (blk off cap a b : Nat) (d0 d : Array Nat) (w0 w : World)
    (eg : ∀ args w, (callFunc g args).run P w = .ok (.enter g args) w) (hcmp : CmpLays P g cb enc k cf blk off d0.size w0) (R : RowK enc k w0 blk off d0) (hs : d0.size = d.size) (S : SWK enc k w0 blk off d w) (hab : a ≤ b) (hb : b ≤ d.size) (hsz : d.size < 4611686018427387904)
    (hd : ∀ p q, a ≤ p → p < q → q < b → d[p]! < d[q]!) :
    Calls P 45 #[.slice (some ⟨blk, off, none⟩) d.size cap, .int .i64 a, .int .i64 b, .func (.func g) #[] cb] w fun e w' => e = .returned (.tuple #[]) ∧ ∃ dk : Array Nat, Aside (SWK enc k w0 blk off dk w') ∧ PermIn a b d dk ∧ SortedIn (lo (ltOf cf)) a b dk := by
  have hp := ins_sort hO a b d hab hb hd
  have hC : CmpLays P g cb enc k cf blk off d.size w := fun m os dk hdk x y => by
    obtain ⟨n0, os0, rfl⟩ := S
    rw [sortWorldK_on enc k w0 blk off n0 m d dk os0 os R.hblk hdk]
    exact hcmp _ _ dk (by omega) x y
  have h := AnyQ.insertionSortCmpFunc LI k L.aE L.zE enc R.hk R.h1 cf g cb blk off cap a b d w eg hC (S.holds R.hblk R.hH hs.symm) (S.lt R.hblk) hab hb hsz
  refine Calls.mono (show Calls P 45 _ w _ from h) ?_
  rintro e w' ⟨rfl, n, os, rfl⟩
  exact ⟨rfl, _, S.on R.hblk n _ os hp.1.1, hp.1, hp.2⟩

set_option maxHeartbeats 16000000 in
set_option maxRecDepth 1000000 in
theorem sstable_fn (L : SLy P k) (LI : SlLaysF0.n20 P insRen) (enc : Nat → List Value) (cf : Nat → Nat → Int) (g : Nat) (cb : Array Value) (hO : SWO (ltOf cf)) (blk off cap : Nat) (d : Array Nat) (w : World)
    (eg : ∀ args w, (callFunc g args).run P w = .ok (.enter g args) w) (hcmp : CmpLays P g cb enc k cf blk off d.size w) (R : RowK enc k w blk off d) (hsz : d.size < 1152921504606846976) (hid : ∀ p, p < d.size → d[p]! = p) :
    Calls P 38 #[.slice (some ⟨blk, off, none⟩) d.size cap, .int .i64 d.size, .func (.func g) #[] cb] w fun e w' => e = .returned (.tuple #[]) ∧ ∃ dk : Array Nat, Aside (SWK enc k w blk off dk w') ∧ PermIn 0 d.size d dk ∧ SortedIn (lo (ltOf cf)) 0 d.size dk := by
  have mixed := L.mixed; have t0 := L.t0; have a0 := L.a0; have z0 := L.z0; have v0 := L.v0; have t3 := L.t3; have a3 := L.a3; have z3 := L.z3; have v3 := L.v3; have t4 := L.t4; have a4 := L.a4; have z4 := L.z4; have v4 := L.v4; have t22 := L.t22; have a22 := L.a22; have z22 := L.z22; have v22 := L.v22; have t25 := L.t25; have a25 := L.a25; have z25 := L.z25; have v25 := L.v25; have aE := L.aE; have zE := L.zE
  have FG := L.fStable
  have eM : ∀ args w, (callFunc 46 args).run P w = .ok (.enter 46 args) w := enters_of L.fMerge (by kernel_rfl) rfl
  have eI : ∀ args w, (callFunc 45 args).run P w = .ok (.enter 45 args) w := enters_of L.fIns (by kernel_rfl) rfl
  have HC : Aside _ := hcmp
  have HO := Lib.hid hO
  have S0 : Aside (SWK enc k w blk off d w) := SWK.start R.hH
  have H0 := Lib.hid hid
  have MG := Lib.hid (smerge_fn L enc cf g cb hO blk off cap d w eg hcmp R)
  clear hcmp hO hid
  obtain ⟨n, hn1, hn2⟩ : ∃ n : Nat, n ≤ d.size ∧ d.size ≤ n := ⟨d.size, Nat.le_refl _, Nat.le_refl _⟩
  go_enter FG, Tryd.ntmps38
  go_wp2
  go_loopg [7, 8] d.size (fun gx s7 s8 wr => ∃ (a : Nat) (dk : Array Nat), s7 = .int .i64 a ∧ s8 = .int .i64 ((a : Int) + 20) ∧ a ≤ d.size ∧ d.size - a ≤ gx ∧ dk.size = d.size ∧ Aside (SWK enc k w blk off dk wr) ∧ Hid (PermIn 0 d.size d dk) ∧ Hid (Pre (ltOf cf) 20 dk a) ∧ Hid (∀ p : Nat, a ≤ p → p < d.size → dk[p]! = p))
  case atStart => exact ⟨0, d, rfl, rfl, by omega, by omega, rfl, S0, permIn_refl _ _ _, Pre.zero, fun p h1 h2 => H0.out p h2⟩
  case round =>
    clear S0
    obtain ⟨a, dk, rfl, rfl, ha, hgx, hds, S1, P1, Q1, T1⟩ := hrel
    by_cases hlt : a + 20 ≤ d.size
    · have hltz : (a : Int) + 20 ≤ (d.size : Int) := by omega
      have hc := sins_fn L LI enc cf g cb HO.out blk off cap a (a + 20) d dk w wr eg HC.out R hds.symm S1.out (by omega) (by omega) (by omega) (fun p q h1 h2 h3 => by rw [T1.out p h1 (by omega), T1.out q (by omega) (by omega)]; exact h2)
      rw [hds, show ((a + 20 : Nat) : Int) = (a : Int) + 20 by omega] at hc
      clear S1
      go_wp2_with (go_at_fn 45; refine hc.mono ?_; rintro e w1 ⟨rfl, d1, S2, p1, s1⟩)
      go_roundg (d.size - (a + 20))
      case measure => omega
      case rel =>
        have hd1 : d1.size = dk.size := p1.1
        refine ⟨a + 20, d1, by go_num, by first | go_num | (congr 1; omega), hlt, Nat.le_refl _, hd1.trans hds, S2, permIn_trans _ _ _ _ _ P1.out (permIn_mono _ _ _ _ _ _ (Nat.zero_le _) hlt (by omega) p1), ?_, fun p h1 h2 => ?_⟩
        · exact (Q1.out.congr fun p hp => p1.2.1 p (Or.inl hp)).more ⟨s1, permIn_all dk d1 a (a + 20) (fun v => a ≤ v ∧ v < a + 20) (by omega) p1 fun p h1 h2 => by rw [T1.out p h1 (by omega)]; exact ⟨h1, h2⟩⟩
        · rw [p1.2.1 p (Or.inr h1)]
          exact T1.out p (by omega) h2
    · have hltz : ¬ (a : Int) + 20 ≤ (d.size : Int) := by omega
      have hc := sins_fn L LI enc cf g cb HO.out blk off cap a d.size d dk w wr eg HC.out R hds.symm S1.out (by omega) (by omega) (by omega) (fun p q h1 h2 h3 => by rw [T1.out p h1 (by omega), T1.out q (by omega) (by omega)]; exact h2)
      rw [hds] at hc
      clear S1
      go_wp2_with (go_at_fn 45; refine hc.mono ?_; rintro e w1 ⟨rfl, d1, S2, p1, s1⟩)
      have hd1 : d1.size = d.size := p1.1.trans hds
      have P2 : Hid (PermIn 0 d.size d d1) := permIn_trans _ _ _ _ _ P1.out (permIn_mono _ _ _ _ _ _ (Nat.zero_le _) (Nat.le_refl _) (by omega) p1)
      have G2 : Hid (Segs (ltOf cf) 20 d.size d1 0) := by
        refine (Q1.out.congr fun p hp => p1.2.1 p (Or.inl hp)).close ?_ ha
        rcases Nat.lt_or_ge a d.size with h | h
        · exact .last h (by omega) ⟨s1, permIn_all dk d1 a d.size (fun v => a ≤ v ∧ v < d.size) (by omega) p1 fun p h1 h2 => by rw [T1.out p h1 (by omega)]; exact ⟨h1, h2⟩⟩
        · exact .nil h
      clear P1 Q1 T1
      replace p1 := Lib.hid p1
      replace s1 := Lib.hid s1
      go_loopg [6] d.size (fun gx s6 wr => ∃ (bs : Nat) (dk : Array Nat), s6 = .int .i64 bs ∧ 20 ≤ bs ∧ bs ≤ 2 * d.size + 20 ∧ d.size - bs ≤ gx ∧ dk.size = d.size ∧ Aside (SWK enc k w blk off dk wr) ∧ Hid (PermIn 0 d.size d dk) ∧ Hid (Segs (ltOf cf) bs d.size dk 0))
      case atStart => exact ⟨20, d1, rfl, by omega, by omega, by omega, hd1, S2, P2, G2⟩
      case round =>
        clear S2 P2 G2 p1 s1 hds hgx ha hltz hlt
        obtain ⟨bs, dk, rfl, hb1, hb2, hgx, hds, S1, P1, G1⟩ := hrel
        by_cases hlt : bs < d.size
        · have hltz : (bs : Int) < (d.size : Int) := by omega
          go_wp2
          go_loopg [7, 8] d.size (fun gy s7 s8 wr => ∃ (a : Nat) (dk : Array Nat), s7 = .int .i64 a ∧ s8 = .int .i64 ((a : Int) + 2 * (bs : Int)) ∧ a ≤ d.size ∧ d.size - a ≤ gy ∧ dk.size = d.size ∧ Aside (SWK enc k w blk off dk wr) ∧ Hid (PermIn 0 d.size d dk) ∧ Hid (Pre (ltOf cf) (2 * bs) dk a) ∧ Hid (Segs (ltOf cf) bs d.size dk a))
          case atStart => exact ⟨0, dk, rfl, by first | go_num | (congr 1; omega), by omega, by omega, hds, S1, P1, Pre.zero, G1⟩
          case round =>
            clear S1 P1 G1 hds
            obtain ⟨a, dk, rfl, rfl, ha, hgy, hds, S1, P1, Q1, G1⟩ := hrel
            by_cases hl2 : a + 2 * bs ≤ d.size
            · have hl2z : (a : Int) + 2 * (bs : Int) ≤ (d.size : Int) := by omega
              have tw := Lib.hid (G1.out.two (by omega) hl2)
              have hc := MG.out (d.size + 1) a (a + bs) (a + 2 * bs) dk wr (by omega) hds.symm S1.out (by omega) (by omega) (by omega) (by omega) tw.out.1.1 tw.out.2.1.1 (tw.out.1.cross tw.out.2.1)
              rw [hds, show ((a + bs : Nat) : Int) = (a : Int) + (bs : Int) by omega, show ((a + 2 * bs : Nat) : Int) = (a : Int) + 2 * (bs : Int) by omega] at hc
              clear S1
              go_wp2_with (go_at_fn 46; refine hc.mono ?_; rintro e w1 ⟨rfl, d1, S2, p1, s1⟩)
              go_roundg (d.size - (a + 2 * bs))
              case measure => omega
              case rel =>
                have hd1 : d1.size = dk.size := p1.1
                refine ⟨a + 2 * bs, d1, by first | go_num | (congr 1; omega), by first | go_num | (congr 1; omega), hl2, Nat.le_refl _, hd1.trans hds, S2, permIn_trans _ _ _ _ _ P1.out (permIn_mono _ _ _ _ _ _ (Nat.zero_le _) hl2 (by omega) p1), ?_, ?_⟩
                · exact (Q1.out.congr fun p hp => p1.2.1 p (Or.inl hp)).more (tw.out.1.merged tw.out.2.1 (by omega) (by omega) (by omega) p1 s1)
                · exact tw.out.2.2.congr fun p h1 h2 => p1.2.1 p (Or.inr h1)
            · have hl2z : ¬ (a : Int) + 2 * (bs : Int) ≤ (d.size : Int) := by omega
              by_cases hl3 : a + bs < d.size
              · have hl3z : (a : Int) + (bs : Int) < (d.size : Int) := by omega
                have tw := Lib.hid (G1.out.rest hl3 (by omega))
                have hc := MG.out (d.size + 1) a (a + bs) d.size dk wr (by omega) hds.symm S1.out (by omega) (by omega) (by omega) (by omega) tw.out.1.1 tw.out.2.1 (tw.out.1.cross tw.out.2)
                rw [hds, show ((a + bs : Nat) : Int) = (a : Int) + (bs : Int) by omega] at hc
                clear S1
                go_wp2_with (go_at_fn 46; refine hc.mono ?_; rintro e w1 ⟨rfl, d1, S2, p1, s1⟩)
                go_roundg (d.size - bs * 2)
                case measure => omega
                case rel =>
                  have hd1 : d1.size = dk.size := p1.1
                  refine ⟨bs * 2, d1, by first | go_num | (congr 1; omega), by omega, by omega, Nat.le_refl _, hd1.trans hds, S2, permIn_trans _ _ _ _ _ P1.out (permIn_mono _ _ _ _ _ _ (Nat.zero_le _) (Nat.le_refl _) (by omega) p1), ?_⟩
                  rw [show bs * 2 = 2 * bs by omega]
                  exact (Q1.out.congr fun p hp => p1.2.1 p (Or.inl hp)).close (.last (by omega) (by omega) (tw.out.1.merged tw.out.2 (by omega) (by omega) (by omega) p1 s1)) ha
              · have hl3z : ¬ (a : Int) + (bs : Int) < (d.size : Int) := by omega
                go_wp2
                go_roundg (d.size - bs * 2)
                case measure => omega
                case rel =>
                  refine ⟨bs * 2, dk, by first | go_num | (congr 1; omega), by omega, by omega, Nat.le_refl _, hds, S1, P1, ?_⟩
                  rw [show bs * 2 = 2 * bs by omega]
                  exact Q1.out.close (G1.out.wide (by omega)) ha
        · have hltz : ¬ (bs : Int) < (d.size : Int) := by omega
          go_wp2
          go_end0
          exact ⟨rfl, dk, S1, P1.out, G1.out.whole (by omega)⟩
end Go.Proofs.YtpkpmoiekjhdnaaDoor
