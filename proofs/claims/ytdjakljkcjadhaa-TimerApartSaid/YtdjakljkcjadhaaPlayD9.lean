/-
  The law's play, taking those that are due. No condition but the contracts.
-/
import Derived.Test.YtdjakljkcjadhaaPlay9
namespace Go.Proofs.Ytdjakljkcjadhaa.T9
open Go.RowKit Go.Sort Go.Lib

section
variable {TI : World → Nat → Nat → (Nat → Prop) → List TmV → Prop} {w : World} {b bq : Nat} {D : Nat → Prop} {B : Option Addr} {d : Nat} {L : List TmV}
theorem rd_drop {g o n m c : Nat} {P : Nat → TmV} (h : RdT w (some ⟨g, o, none⟩) n P) (hm : m ≤ n) (hc : n ≤ c) : RdT w (if c = m then some ⟨g, o, none⟩ else some ⟨g, o + m * 3, none⟩) (n - m) (fun j => P (m + j)) := by
  refine ⟨by have := h.small; omega, fun hp => ?_, fun j hj => h.ok _ (by omega)⟩
  obtain ⟨b', o', e, cc⟩ := h.adr (by omega)
  have e2 := Option.some.inj e
  simp only [Addr.mk.injEq, and_true] at e2
  rw [← e2.1, ← e2.2] at cc
  rw [if_neg (by omega)]
  exact ⟨g, o + m * 3, rfl, fun j hj => by
    have := cc (m + j) (by omega)
    rwa [show o + (m + j) * 3 = o + m * 3 + j * 3 by omega] at this⟩
theorem off_drop {g o n m c : Nat} (h : Off D (some ⟨g, o, none⟩) n) : Off D (if c = m then some ⟨g, o, none⟩ else some ⟨g, o + m * 3, none⟩) (n - m) := fun b' o' e hp => by
  have hb : b' = g := by
    split at e
    · have e2 := Option.some.inj e
      simp only [Addr.mk.injEq, and_true] at e2
      exact e2.1.symm
    · have e2 := Option.some.inj e
      simp only [Addr.mk.injEq, and_true] at e2
      exact e2.1.symm
  rw [hb]
  exact h g o rfl (by omega)
/-- Due, and what lies behind it. -/
theorem due_post (C : Con TI) {W : World} (KW : Keep w W) (h : Side TI w b bq D B d L) (hl : L.length ≤ 100) (x : TmV) (hx : TmOk x) {g : Nat} {v : Value} (hg : w.heap.size ≤ g) (hc : W.cell? ⟨g, 2, none⟩ = some v) {m : Nat} (hm : dueN x.t L = m) (lo hi : Option Addr) (cl ch : Nat)
    (hlo : RdT W lo m (row L)) (olo : Off D lo m) (hhi : RdT W hi (L.length - m) (fun j => row L (m + j))) (ohi : Off D hi (L.length - m)) (ph : Pl hi (L.length - m) ch) (chh : L.length - m ≤ ch) :
    ∀ W', Keep W W' → Calls Try.prog 16 #[.pointer (some ⟨bq, 0, none⟩), .int .i64 x.t] W' fun e w5 => ∃ B5 d5, e = .returned (.slice B5 m d5) ∧ w5.cell? ⟨g, 2, none⟩ = some v ∧
      (∀ W2, Keep w5 W2 → Calls Try.prog 12 #[.slice B5 m d5, .slice lo m cl] W2 fun e w6 => e = .returned (.bool true) ∧ Keep W2 w6) ∧ ∀ W2, Keep w5 W2 → After TI w W2 b bq D hi ch (L.drop m) := by
  intro W' k
  have hm2 : m ≤ L.length := by rw [← hm]; exact due_le _ _
  have ltD : ∀ k, D k → k < w.heap.size := fun k h' => (C.lo h.t k h').2
  refine (C.due_to (C.keep (C.keep h.t KW) k) x.t hx.t hm rfl).mono ?_
  rintro e w5 ⟨B5, d5, rfl, R5, D5, T5, F5, N5, O5⟩
  have K0 : Keep w W' := KW.trans k
  have ll : (L.drop m).length = L.length - m := List.length_drop ..
  have FF : Fr D w w5 := Fr.after K0 F5
  have NN : ∀ k, D5 k → D k ∨ w.heap.size ≤ k := fun k hk => by
    rcases N5 k hk with h1 | h1
    · exact Or.inl h1
    · right
      have := K0.size
      omega
  refine ⟨B5, d5, rfl, F5.cell (k.cell hc) (fun hd => by have h9 : g < w.heap.size := ltD _ hd; omega), fun W2 k2 => ?_, fun W2 k2 => ⟨FF.keep k2, D5, ⟨C.keep T5 k2, ?_, by rw [ll]; exact ph, by rw [ll]; exact chh, ?_⟩, NN⟩⟩
  · exact same_fn B5 lo m d5 cl (row L) (row L) W2 ((rows_rd R5 (by omega) (fun j hj => C.ok h.t _ (row_mem (by omega)))).keep k2) (((hlo.keep k).fr F5 olo).keep k2) (fun _ _ => rfl)
  · rw [ll]
    exact (((hhi.keep k).fr F5 ohi).keep k2).congr (fun j _ => (row_drop L m j).symm)
  · rw [ll]
    exact ohi.more (hhi.keep k) (Nat.le_refl _) N5
set_option maxRecDepth 100000 in
set_option maxHeartbeats 8000000 in
theorem play_due (C : Con TI) (h : Side TI w b bq D B d L) (hl : L.length ≤ 100) (K : Int) (h0 : K ≠ 0) (h1 : K ≠ 1) (x : TmV) (hx : TmOk x) :
    Calls Try.prog 10 #[.pointer (some ⟨bq, 0, none⟩), .slice B L.length d, .agg #[.int .i64 K, .int .i64 x.k, .int .i64 x.t, .int .i64 x.a]] w fun e w' => ∃ B' L' d', e = .returned (.tuple #[.slice B' L'.length d', .bool true]) ∧ L'.length ≤ L.length + 1 ∧ After TI w w' b bq D B' d' L' := by
  have mixed : Try.prog.follows .mixedOrders = true := by kernel_rfl
  obtain ⟨W, hW⟩ : ∃ W, W = w.alloc (.cells #[.int .i64 K, .int .i64 x.k, .int .i64 x.t, .int .i64 x.a] 32) := ⟨_, rfl⟩
  have KW : Keep w W := by rw [hW]; exact Keep.one _ _
  have hb : W.heap[w.heap.size]? = some (.cells #[.int .i64 K, .int .i64 x.k, .int .i64 x.t, .int .i64 x.a] 32 (0, 0)) := by rw [hW]; exact heap_alloc_new _ _
  have u2 : W.cell? ⟨w.heap.size, 2, none⟩ = some (.int .i64 x.t) := by rw [cell_of_row W _ _ _ _ _ hb]; rfl
  have RW := h.rd.keep KW
  have cN := rdue_fn B L.length d (row L) x.t W RW
  rw [lst_row] at cN
  obtain ⟨m, hm⟩ : ∃ m, m = dueN x.t L := ⟨_, rfl⟩
  have hm2 : m ≤ L.length := by rw [hm]; exact due_le _ _
  have post := due_post C KW h hl x hx (Nat.le_refl _) u2 hm.symm
  rw [← hm] at cN
  have ll : (L.drop m).length = L.length - m := List.length_drop ..
  obtain ⟨n, hn⟩ : ∃ n, n = L.length := ⟨_, rfl⟩
  have hcap := h.cap
  rw [← hn] at cN hm2 post hl hcap RW ll ⊢
  have oB := h.off
  rw [← hn] at oB
  have pB := h.pl
  rw [← hn] at pB
  replace hn := Lib.hid hn
  replace hm := Lib.hid hm
  replace h := Lib.hid h
  replace hx := Lib.hid hx
  replace hb := Lib.hid hb
  replace cN := Lib.hid cN
  replace KW := Lib.hid KW
  rcases pB with ⟨rfl, rfl, rfl⟩ | ⟨g, o, rfl⟩
  · obtain rfl : m = 0 := by omega
    have cD := Lib.hid (post none none 0 0 (RdT.nil _ _ _) (Off.nil _ _) (RdT.nil _ _ _) (Off.nil _ _) (Or.inl ⟨rfl, rfl, rfl⟩) (Nat.le_refl _))
    clear post RW oB
    replace ll := Lib.hid ll
    go_enter Try.func10, Try.ntmps10
    go_wp2_with fail
    rw [← hW]
    replace hW := Lib.hid hW
    refine cN.out.mono ?_
    rintro e w4 ⟨rfl, rfl⟩
    clear cN
    go_wp2_with fail
    go_region_held3 (fun w' => w'.cell? ⟨w.heap.size, 2, none⟩ = some (.int .i64 x.t))
      (first
        | exact v5
        | ((refine (fun (KK : Keep W _) => KK.cell u2) ?_; repeat (with_reducible first | exact Keep.refl W | apply Keep.drew | apply Keep.drewN)); done)
        | ((refine (fun (KK : Keep w5 _) => KK.cell v5) ?_; repeat (with_reducible first | exact Keep.refl w5 | exact k6.out | apply Keep.drew | apply Keep.drewN | (refine Keep.trans ?_ k6.out))); done))
      (first
        | (go_at_call 16; refine (cD.out _ (by repeat (with_reducible first | exact Keep.refl W | apply Keep.drew | apply Keep.drewN))).mono ?_; rintro e w5 ⟨B5, d5, rfl, v5, cQ, fin⟩; replace cQ := Lib.hid cQ; replace fin := Lib.hid fin)
        | (go_at_call 12; refine (cQ.out _ (by repeat (with_reducible first | exact Keep.refl w5 | apply Keep.drew | apply Keep.drewN))).mono ?_; rintro e w6 ⟨rfl, k6⟩; replace k6 := Lib.hid k6))
    all_goals
      clear u2 v5 cD cQ
      go_wp2
      go_ret2
      exact ⟨none, L.drop 0, 0, by rw [ll.out]; rfl, by rw [ll.out]; omega, fin.out _ (by repeat (with_reducible first | exact Keep.refl w5 | apply Keep.drew | apply Keep.drewN | (refine Keep.trans ?_ k6.out)))⟩
  · by_cases he : d = m
    · obtain rfl : d = m := he
      obtain rfl : n = d := by omega
      have cD := Lib.hid (post (some ⟨g, o, none⟩) (some ⟨g, o, none⟩) n 0 RW oB (by rw [Nat.sub_self]; exact RdT.nil _ _ _) (by rw [Nat.sub_self]; exact Off.nil _ _) (Or.inr ⟨g, o, rfl⟩) (by omega))
      clear post RW oB
      replace ll := Lib.hid ll
      have hz1 : (n : Int) ≤ (n : Int) := by omega
      have hz2 : (0 : Int) ≤ (n : Int) := by omega
      go_enter Try.func10, Try.ntmps10
      go_wp2_with fail
      rw [← hW]
      replace hW := Lib.hid hW
      refine cN.out.mono ?_
      rintro e w4 ⟨rfl, rfl⟩
      clear cN
      go_wp2_with fail
      go_region_held3 (fun w' => w'.cell? ⟨w.heap.size, 2, none⟩ = some (.int .i64 x.t))
        (first
          | exact v5
          | ((refine (fun (KK : Keep W _) => KK.cell u2) ?_; repeat (with_reducible first | exact Keep.refl W | apply Keep.drew | apply Keep.drewN)); done)
          | ((refine (fun (KK : Keep w5 _) => KK.cell v5) ?_; repeat (with_reducible first | exact Keep.refl w5 | exact k6.out | apply Keep.drew | apply Keep.drewN | (refine Keep.trans ?_ k6.out))); done))
        (first
          | (go_at_call 16; refine (cD.out _ (by repeat (with_reducible first | exact Keep.refl W | apply Keep.drew | apply Keep.drewN))).mono ?_; rintro e w5 ⟨B5, d5, rfl, v5, cQ, fin⟩; replace cQ := Lib.hid cQ; replace fin := Lib.hid fin)
          | (go_at_call 12; refine (cQ.out _ (by repeat (with_reducible first | exact Keep.refl w5 | apply Keep.drew | apply Keep.drewN))).mono ?_; rintro e w6 ⟨rfl, k6⟩; replace k6 := Lib.hid k6))
      all_goals
        clear u2 v5 cD cQ
        go_wp2
        go_ret2
        exact ⟨_, L.drop n, 0, by rw [ll.out, Nat.sub_self]; rfl, by rw [ll.out]; omega, fin.out _ (by repeat (with_reducible first | exact Keep.refl w5 | apply Keep.drew | apply Keep.drewN | (refine Keep.trans ?_ k6.out)))⟩
    · have cD := post (some ⟨g, o, none⟩) (if d = m then some ⟨g, o, none⟩ else some ⟨g, o + m * 3, none⟩) d (d - m) ⟨by have := RW.small; omega, fun hp => by
        obtain ⟨b', o', e, cc⟩ := RW.adr (by omega)
        exact ⟨b', o', e, fun j hj => cc j (by omega)⟩, fun j hj => RW.ok j (by omega)⟩ (fun b' o' e hp => oB b' o' e (by omega)) (rd_drop RW hm2 hcap) (off_drop oB) (by
          right
          split
          · exact ⟨g, o, rfl⟩
          · exact ⟨g, o + m * 3, rfl⟩) (by omega)
      rw [if_neg he] at cD
      replace cD := Lib.hid cD
      clear post RW oB
      replace ll := Lib.hid ll
      have hz1 : (m : Int) ≤ (d : Int) := by omega
      have hz2 : (m : Int) ≤ (n : Int) := by omega
      go_enter Try.func10, Try.ntmps10
      go_wp2_with fail
      rw [← hW]
      replace hW := Lib.hid hW
      refine cN.out.mono ?_
      rintro e w4 ⟨rfl, rfl⟩
      clear cN
      go_wp2_with fail
      go_region_held3 (fun w' => w'.cell? ⟨w.heap.size, 2, none⟩ = some (.int .i64 x.t))
        (first
          | exact v5
          | ((refine (fun (KK : Keep W _) => KK.cell u2) ?_; repeat (with_reducible first | exact Keep.refl W | apply Keep.drew | apply Keep.drewN)); done)
          | ((refine (fun (KK : Keep w5 _) => KK.cell v5) ?_; repeat (with_reducible first | exact Keep.refl w5 | exact k6.out | apply Keep.drew | apply Keep.drewN | (refine Keep.trans ?_ k6.out))); done))
        (first
          | (go_at_call 16; refine (cD.out _ (by repeat (with_reducible first | exact Keep.refl W | apply Keep.drew | apply Keep.drewN))).mono ?_; rintro e w5 ⟨B5, d5, rfl, v5, cQ, fin⟩; replace cQ := Lib.hid cQ; replace fin := Lib.hid fin)
          | (go_at_call 12; refine (cQ.out _ (by repeat (with_reducible first | exact Keep.refl w5 | apply Keep.drew | apply Keep.drewN))).mono ?_; rintro e w6 ⟨rfl, k6⟩; replace k6 := Lib.hid k6))
      all_goals
        clear u2 v5 cD cQ
        go_wp2
        go_ret2
        exact ⟨_, L.drop m, d - m, by rw [ll.out]; rfl, by rw [ll.out]; omega, fin.out _ (by repeat (with_reducible first | exact Keep.refl w5 | apply Keep.drew | apply Keep.drewN | (refine Keep.trans ?_ k6.out)))⟩
end
end Go.Proofs.Ytdjakljkcjadhaa.T9
