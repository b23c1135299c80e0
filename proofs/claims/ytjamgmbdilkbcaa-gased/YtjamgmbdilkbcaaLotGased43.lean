import Derived.Test.YtjamgmbdilkbcaaLotGased42
/- Two runs of one script. No program here. -/
namespace Go.Proofs.Ytjamgmbdilkbcaa
open Go.RowKit Mc

theorem script_n5 (b : ByteArray) (ki fu : Int) : (readScript b ki fu).2 ≠ 5 := by
  unfold readScript
  split
  · simp
  · split <;> simp

theorem says_gas {m : Pu.Md} {A A1 A2 : Nat → Bool × Int} {b : ByteArray} {who g e1 c1 u1 e2 c2 u2 : Int} (hw : 0 ≤ who ∧ who < 8) (hg : 0 ≤ g ∧ g ≤ 10000) (h1 : RunSays m A b who 10000 A1 e1 c1 u1) (h2 : RunSays m A b who g A2 e2 c2 u2) :
    (e1 ≠ 0 → A1 = A) ∧ ((u1 > g ∨ e1 = 5) → e2 = 5 ∧ c2 = 0 ∧ u2 = g ∧ A2 = A) ∧ (¬ (u1 > g ∨ e1 = 5) → e2 = e1 ∧ c2 = c1 ∧ u2 = u1 ∧ ∀ j, j < 48 → A2 j = A1 j) := by
  rcases h1 with ⟨h, _⟩ | ⟨_, h, rfl, rfl, rfl, rfl⟩ | ⟨_, h, hs, rfl, rfl, rfl, rfl⟩ | ⟨_, h, hs, hA1, he1, hc1, hu1⟩
  · omega
  · rcases h2 with ⟨k, _⟩ | ⟨_, k, rfl, rfl, rfl, rfl⟩ | ⟨_, k, _⟩ | ⟨_, k, _⟩
    · omega
    · refine ⟨fun _ => rfl, fun q => ?_, fun _ => ⟨rfl, rfl, rfl, fun _ _ => rfl⟩⟩
      rcases q with q | q
      · omega
      · exact absurd q (script_n5 _ _ _)
    · exact absurd k h
    · exact absurd k h
  · rcases h2 with ⟨k, _⟩ | ⟨_, k, _⟩ | ⟨_, _, _, rfl, rfl, rfl, rfl⟩ | ⟨_, _, k, _⟩
    · omega
    · exact absurd h k
    · exact ⟨fun _ => rfl, fun q => by omega, fun _ => ⟨rfl, rfl, rfl, fun _ _ => rfl⟩⟩
    · exact absurd k hs
  · rcases h2 with ⟨k, _⟩ | ⟨_, k, _⟩ | ⟨_, _, k, _⟩ | ⟨_, _, _, hA2, he2, hc2, hu2⟩
    · omega
    · exact absurd h k
    · exact absurd hs k
    · have v1 := runV_is m (readScript b m.kinds.length m.funcs.length).1 A who 10000
      have v2 := runV_is m (readScript b m.kinds.length m.funcs.length).1 A who g
      obtain ⟨q1, q2⟩ := runV_gas m (readScript b m.kinds.length m.funcs.length).1 A who hg.1 hg.2
      have x1 := v1.acc
      have x2 := v2.acc
      rw [v1.err] at hA1 he1
      rw [v1.code] at hc1
      rw [v1.used] at hu1
      rw [v2.err] at hA2 he2
      rw [v2.code] at hc2
      rw [v2.used] at hu2
      refine ⟨fun hne => ?_, fun q => ?_, fun q => ?_⟩
      · rw [he1] at hne
        rw [hA1, if_neg hne]
      · rw [hu1, he1] at q
        obtain ⟨p1, p2, p3⟩ := q1 q
        refine ⟨he2.trans p1, hc2.trans p2, hu2.trans p3, ?_⟩
        rw [hA2, if_neg (by rw [p1]; decide)]
      · rw [hu1, he1] at q
        have p := q2 q
        rw [p] at he2 hc2 hu2 hA2 x2
        refine ⟨he2.trans he1.symm, hc2.trans hc1.symm, hu2.trans hu1.symm, fun j hj => ?_⟩
        rw [hA1, hA2]
        split
        · rw [x1 j hj, x2 j hj]
        · rfl

theorem machine0_congr {A B : Nat → Bool × Int} (h : ∀ j, j < 48 → A j = B j) (who : Int) : machine0 who A = machine0 who B := by
  unfold machine0
  have e1 : ∀ i : Nat, (if i = 2 then who else if i = 315 then 1 else if 3 ≤ i ∧ i < 99 then (A ((i - 3) / 2)).2 else 0) = (if i = 2 then who else if i = 315 then 1 else if 3 ≤ i ∧ i < 99 then (B ((i - 3) / 2)).2 else 0) := fun i => by
    by_cases hi : 3 ≤ i ∧ i < 99
    · rw [h _ (by omega)]
    · rw [if_neg hi, if_neg hi]
  have e2 : ∀ i : Nat, (if 3 ≤ i ∧ i < 99 then (A ((i - 3) / 2)).1 else false) = (if 3 ≤ i ∧ i < 99 then (B ((i - 3) / 2)).1 else false) := fun i => by
    by_cases hi : 3 ≤ i ∧ i < 99
    · rw [h _ (by omega)]
    · rw [if_neg hi, if_neg hi]
  simp only [e1, e2]
theorem runM_congr {A B : Nat → Bool × Int} (h : ∀ j, j < 48 → A j = B j) (m : Pu.Md) (f : Pu.Fn) (who gas : Int) : runM m f A who gas = runM m f B who gas := by
  unfold runM; rw [machine0_congr h]
/-- what is said of accounts is said of those that hold the same. -/
theorem says_congr {m : Pu.Md} {A B A' : Nat → Bool × Int} {b : ByteArray} {who gas e c u : Int} (h : ∀ j, j < 48 → A j = B j) (hr : RunSays m A b who gas A' e c u) : ∃ B', RunSays m B b who gas B' e c u ∧ ∀ j, j < 48 → A' j = B' j := by
  rcases hr with ⟨h1, rfl, h2⟩ | ⟨h1, h2, rfl, h3⟩ | ⟨h1, h2, h3, rfl, h4⟩ | ⟨h1, h2, h3, h4, h5⟩
  · exact ⟨B, .inl ⟨h1, rfl, h2⟩, h⟩
  · exact ⟨B, .inr (.inl ⟨h1, h2, rfl, h3⟩), h⟩
  · exact ⟨B, .inr (.inr (.inl ⟨h1, h2, h3, rfl, h4⟩)), h⟩
  · rw [runM_congr h] at h4 h5
    refine ⟨_, .inr (.inr (.inr ⟨h1, h2, h3, rfl, h5⟩)), fun j hj => ?_⟩
    rw [h4]
    split
    · rfl
    · exact h j hj
end Go.Proofs.Ytjamgmbdilkbcaa

/- Gased: sure, alike. -/
namespace Go.Proofs.Ytjamgmbdilkbcaa
open Go.RowKit

set_option maxRecDepth 100000 in
set_option maxHeartbeats 2000000 in
theorem sure_any (q r : Nat) (A : Nat → Bool × Int) (B : Bk) (w : World) (hl : Lg w q bankM A) (hb : BkR w r B) (hA : HoldsB A B) :
    Calls Try.prog 24 #[.pointer (some ⟨q, 0, none⟩), .pointer (some ⟨r, 0, none⟩)] w fun e w' => e = .returned (.bool true) ∧ Below w.heap.size w w' := by
  have b0 := Below.refl w.heap.size w
  go_enter Try.func24, Try.ntmps24
  go_wp2_with fail
  go_loopw [5] (fun i wr => ∃ k : Nat, k ≤ 8 ∧ i = .int .i64 k ∧ Lg wr q bankM A ∧ BkR wr r B ∧ Below w.heap.size w wr) (fun i _ => 8 - (intOf i).toNat)
  case atStart => exact ⟨0, Nat.zero_le _, rfl, hl, hb, b0⟩
  case round =>
    clear hl hb b0
    obtain ⟨k, hk, rfl, Lk, Bk', bk⟩ := hrel
    by_cases hlt : k < 8
    · have C := hid (holds_any q r A _ k _ Lk Bk' hA hlt)
      go_wp2_with fail
      refine C.out.mono ?_
      rintro e w4 ⟨rfl, hb4⟩
      have L4 := Lk.below hb4 Lk.lt
      have B4 := Bk'.below hb4 Bk'.lt
      have b4 := bk.trans (hb4.mono bk.size)
      clear C Lk Bk' bk hb4
      go_wp2
      go_roundw
      case rel => exact ⟨k + 1, hlt, by go_num, L4, B4, b4⟩
      case measure => simp [intOf]; omega
    · clear Lk Bk'
      go_wp2
      go_ret
      exact ⟨rfl, bk⟩

set_option maxRecDepth 100000 in
set_option maxHeartbeats 2000000 in
theorem alike_any (q r : Nat) (A A2 : Nat → Bool × Int) (w : World) (hl : Lg w q bankM A) (hm : Lg w r bankM A2) (hA : ∀ j, j < 48 → A2 j = A j) :
    Calls Try.prog 25 #[.pointer (some ⟨q, 0, none⟩), .pointer (some ⟨r, 0, none⟩)] w fun e w' => e = .returned (.bool true) ∧ Below w.heap.size w w' := by
  have b0 := Below.refl w.heap.size w
  have HE : Hid (∀ k : Nat, ledAmount bankM A2 k 1 = ledAmount bankM A k 1) := hid fun k => by unfold ledAmount; rw [amountS_congr hA]
  clear hA
  go_enter Try.func25, Try.ntmps25
  go_wp2_with fail
  go_loopw [5] (fun i wr => ∃ k : Nat, k ≤ 8 ∧ i = .int .i64 k ∧ Lg wr q bankM A ∧ Lg wr r bankM A2 ∧ Below w.heap.size w wr) (fun i _ => 8 - (intOf i).toNat)
  case atStart => exact ⟨0, Nat.zero_le _, rfl, hl, hm, b0⟩
  case round =>
    clear hl hm b0
    obtain ⟨k, hk, rfl, Lk, Mk, bk⟩ := hrel
    by_cases hlt : k < 8
    · have C := hid (amount_any q bankM A k 1 wr Lk)
      have D := hid fun (W : World) (h : Lg W r bankM A2) => amount_any r bankM A2 k 1 W h
      rw [HE.out k] at D
      generalize ledAmount bankM A k 1 = X at C D
      obtain ⟨n, x⟩ := X
      simp only at C D
      go_wp2_with fail
      refine C.out.mono ?_
      rintro e w4 ⟨rfl, hb4⟩
      have L4 := Lk.below hb4 Lk.lt
      have M4 := Mk.below hb4 Mk.lt
      have b4 := bk.trans (hb4.mono bk.size)
      clear C Lk Mk bk hb4
      go_wp2_with fail
      refine (D.out _ M4).mono ?_
      rintro e w5 ⟨rfl, hb5⟩
      have L5 := L4.below hb5 L4.lt
      have M5 := M4.below hb5 M4.lt
      have b5 := b4.trans (hb5.mono b4.size)
      clear D L4 M4 b4 hb5
      go_wp2
      go_roundw
      case rel => exact ⟨k + 1, hlt, by go_num, L5, M5, b5⟩
      case measure => simp [intOf]; omega
    · clear Lk Mk
      go_wp2
      go_ret
      exact ⟨rfl, bk⟩
end Go.Proofs.Ytjamgmbdilkbcaa

/- Gased, walked. -/
namespace Go.Proofs.Ytjamgmbdilkbcaa
open Go.RowKit

theorem DealsR.below {w w' : World} {B : Nat} {v : Value} {ds : List Dl} (h : DealsR w B v ds) (hb : Below B w w') : DealsR w' B v ds := by
  obtain ⟨ao, cap, b, off, hv, h1, h2⟩ := h
  refine ⟨ao, cap, b, off, hv, h1, fun j hj => ?_⟩
  obtain ⟨c0, c1, c2, c3, hi⟩ := h2 j hj
  have hB := (h1 (by omega)).2
  exact ⟨(hb.cell (p := ⟨b, off + j * 4, none⟩) hB).trans c0, (hb.cell (p := ⟨b, off + j * 4 + 1, none⟩) hB).trans c1, (hb.cell (p := ⟨b, off + j * 4 + 2, none⟩) hB).trans c2, (hb.cell (p := ⟨b, off + j * 4 + 3, none⟩) hB).trans c3, hi⟩
theorem DealsR.wide {w : World} {B B' : Nat} {v : Value} {ds : List Dl} (h : DealsR w B v ds) (hB : B ≤ B') : DealsR w B' v ds := by
  obtain ⟨ao, cap, b, off, hv, h1, h2⟩ := h
  exact ⟨ao, cap, b, off, hv, fun h => ⟨(h1 h).1, by have := (h1 h).2; omega⟩, h2⟩

set_option maxRecDepth 100000 in
set_option maxHeartbeats 2000000 in
theorem gased_walk (ds : List Dl) (v : Value) (b : ByteArray) (rwho rgas : Int) (w : World) (h : DealsR w w.heap.size v ds) (hn : ds.length ≤ maxLen) (hs : b.size ≤ maxLen) (hx : I64 rwho) (hy : I64 rgas) :
    Calls Try.prog 9 #[v, .string b, .int .i64 rwho, .int .i64 rgas] w fun e w' => e = .returned (.bool true) ∧ Below w.heap.size w w' := by
  obtain ⟨p1, l1⟩ := pk_is (c := rwho) (n := 8) (by omega)
  obtain ⟨p2, l2⟩ := pk_is (c := rgas) (n := 10001) (by omega)
  have C1 := hid fun W => kpick_any rwho 8 hx (by omega) W
  have C2 := hid fun W => kpick_any rgas 10001 hy (by omega) W
  rw [p1] at C1
  rw [p2] at C2
  generalize pk rwho 8 = who at *
  generalize pk rgas 10001 = gas at *
  clear p1 p2 hx hy
  have CO := hid (opened_any ds v w h hn)
  have HO := hid fun (W : World) (hb : Below w.heap.size w W) => opened_any ds v W ((h.below hb).wide hb.size) hn
  clear h
  go_enter Try.func9, Try.ntmps9
  go_wp2_with fail
  refine (C1.out _).mono ?_
  rintro e w1 ⟨rfl, rfl⟩
  go_wp2_with fail
  refine (C2.out _).mono ?_
  rintro e w1 ⟨rfl, rfl⟩
  clear C1 C2
  go_wp2_with fail
  refine CO.out.mono ?_
  rintro e w1 ⟨q, r, A, rfl, L1, B1, H1, hqr, hq, b1⟩
  clear CO
  go_wp2_with fail
  refine (HO.out _ b1).mono ?_
  rintro e w2 ⟨q2, r2, A2, rfl, M2, _, H2, hqr2, hq2, b2⟩
  clear HO
  have hq1 := L1.lt
  have hr1 := B1.lt
  have L2 := L1.below b2 hq1
  have B2 := B1.below b2 hr1
  have hB1 := b1.size
  have b12 := b1.trans (b2.mono hB1)
  clear L1 B1 b1 b2
  generalize booked ds ds.length = B at *
  have CR := hid (run_any q bankM A b who 10000 w2 L2.lg bank_is hs)
  go_wp2_with fail
  refine CR.out.mono ?_
  rintro e w3 ⟨A1, e1, c1, u1, rfl, S1, L3, g3, _⟩
  clear CR
  have M3 := M2.far g3 hq1 hq2
  have B3' := B2.kept g3 (by simp; omega)
  have b3 := b12.grown g3 b12.size (fun k hk => by cases hk; omega)
  have hz3 := g3.size
  have hq2l := M2.lt
  have al3 := (Below.refl w3.heap.size w3).alloc (Nat.le_refl _) (.cells #[.int .i64 e1, .int .i64 c1, .int .i64 u1] 52)
  have L4 := L3.below al3 L3.lt
  have M4 := M3.below al3 M3.lt
  have B4 := B3'.below al3 B3'.lt
  have b4 := b3.trans (al3.mono b3.size)
  have x4 : B3 (w3.alloc (.cells #[.int .i64 e1, .int .i64 c1, .int .i64 u1] 52)) w3.heap.size 52 _ _ _ := heap_alloc_new w3 _
  clear L2 B2 M2 b12 g3 L3 M3 B3' b3
  have CR := hid (run_any q2 bankM A2 b who gas _ M4.lg bank_is hs)
  go_wp2_with fail
  refine CR.out.mono ?_
  rintro e w5 ⟨A3, e2, c2, u2, rfl, S2, M5, g5, _⟩
  clear CR
  have hAB : ∀ j, j < 48 → A2 j = A j := fun j hj => (H2 j hj).trans (H1 j hj).symm
  obtain ⟨A4, S3, hA34⟩ := says_congr hAB S2
  obtain ⟨f1, f2, f3⟩ := says_gas (by omega) (by omega) S1 S3
  have hqq : q < q2 := by omega
  have L5 := L4.low g5 hqq
  have B5 := B4.kept g5 (by simp; omega)
  have x5 : B3 w5 w3.heap.size 52 _ _ _ := (g5.block _ x4.lt (by simp; omega)).trans x4
  have b5 := b4.grown g5 b4.size (fun k hk => by cases hk; omega)
  have al5 := (Below.refl w5.heap.size w5).alloc (Nat.le_refl _) (.cells #[.int .i64 e2, .int .i64 c2, .int .i64 u2] 52)
  have L6 := L5.below al5 L5.lt
  have M6 := M5.below al5 M5.lt
  have B6 := B5.below al5 B5.lt
  have b6 := b5.trans (al5.mono b5.size)
  have x6 : B3 (w5.alloc (.cells #[.int .i64 e2, .int .i64 c2, .int .i64 u2] 52)) w3.heap.size 52 _ _ _ := (al5.block _ x5.lt).trans x5
  have y6 : B3 (w5.alloc (.cells #[.int .i64 e2, .int .i64 c2, .int .i64 u2] 52)) w5.heap.size 52 _ _ _ := heap_alloc_new w5 _
  have F1 : Hid (e1 ≠ 0 → HoldsB A1 B) := hid fun h => by rw [f1 h]; exact H1
  have F2 : Hid ((gas : Int) < u1 ∨ e1 = 5 → e2 = 5 ∧ c2 = 0 ∧ u2 = gas ∧ HoldsB A3 B) := hid fun h => by
    obtain ⟨k1, k2, k3, k4⟩ := f2 h
    exact ⟨k1, k2, k3, H1.congr fun j hj => by rw [hA34 j hj, k4]⟩
  have F3 : Hid (¬ ((gas : Int) < u1 ∨ e1 = 5) → e2 = e1 ∧ c2 = c1 ∧ u2 = u1 ∧ ∀ j, j < 48 → A3 j = A1 j) := hid fun h => by
    obtain ⟨k1, k2, k3, k4⟩ := f3 h
    exact ⟨k1, k2, k3, fun j hj => (hA34 j hj).trans (k4 j hj)⟩
  have o0 := x5.c0
  have o1 := x5.c1
  have o2 := x5.c2
  have hx5 := x5.lt
  clear S1 S2 S3 hA34 f1 f2 f3 L5 B5 x5 b5 al5 L4 M4 B4 b4 x4 al3 M5 g5 hAB H1 H2
  by_cases hc : (gas : Int) < u1 ∨ e1 = 5
  · obtain ⟨rfl, rfl, rfl, H3⟩ := F2.out hc
    clear F2 F3
    by_cases he : e1 = 0
    · subst he
      have hu : (gas : Int) < u1 := by omega
      clear F1 hc
      have CS := hid (sure_any q2 r A3 B _ M6 B6 H3)
      clear M6 L6 B6
      go_wp2_with fail
      refine CS.out.mono ?_
      rintro e w7 ⟨rfl, b7⟩
      have b8 := b6.trans (b7.mono b6.size)
      have yb : B3 w7 w5.heap.size 52 _ _ _ := (b7.block _ y6.lt).trans y6
      have z0 := yb.c0
      have z1 := yb.c1
      have z2 := yb.c2
      have xb : B3 w7 w3.heap.size 52 _ _ _ := (b7.block _ x6.lt).trans x6
      have v0 := xb.c0
      have v1 := xb.c1
      have v2 := xb.c2
      clear CS b7 b6 yb xb y6 o0 o1 o2
      go_wp2
      go_ret
      exact ⟨rfl, b8⟩
    · have HO := hid (F1.out he)
      have n1 : (e1 == 0) = false := by simpa using he
      have n2 : (e1 != 0) = true := by simpa using he
      clear F1
      by_cases hu : (gas : Int) < u1
      · clear hc
        have CS := hid (sure_any q r A1 B _ L6 B6 HO.out)
        go_wp2_with fail
        refine CS.out.mono ?_
        rintro e w7 ⟨rfl, b7⟩
        have b8 := b6.trans (b7.mono b6.size)
        have L7 := L6.below b7 L6.lt
        have M7 := M6.below b7 M6.lt
        have B7 := B6.below b7 B6.lt
        have yb : B3 w7 w5.heap.size 52 _ _ _ := (b7.block _ y6.lt).trans y6
        have z0 := yb.c0
        have z1 := yb.c1
        have z2 := yb.c2
        have xb : B3 w7 w3.heap.size 52 _ _ _ := (b7.block _ x6.lt).trans x6
        have v0 := xb.c0
        have v1 := xb.c1
        have v2 := xb.c2
        have hyl := yb.lt
        have hxl := xb.lt
        clear CS b7 b6 L6 M6 B6 y6 o0 o1 o2
        have CT := hid (sure_any q2 r A3 B _ M7 B7 H3)
        clear L7 M7 B7
        go_wp2_with fail
        refine CT.out.mono ?_
        rintro e w8 ⟨rfl, b9⟩
        have b10 := b8.trans (b9.mono b8.size)
        have yc : B3 w8 w5.heap.size 52 _ _ _ := (b9.block _ hyl).trans yb
        have xc : B3 w8 w3.heap.size 52 _ _ _ := (b9.block _ hxl).trans xb
        clear CT b9 b8 z0 z1 z2 v0 v1 v2
        have z0 := yc.c0
        have z1 := yc.c1
        have z2 := yc.c2
        have v0 := xc.c0
        have v1 := xc.c1
        have v2 := xc.c2
        clear yb xb yc xc
        go_wp2
        go_ret
        exact ⟨rfl, b10⟩
      · have h5 : e1 = 5 := by omega
        subst h5
        clear hc n1 n2 he
        have CS := hid (sure_any q r A1 B _ L6 B6 HO.out)
        go_wp2_with fail
        refine CS.out.mono ?_
        rintro e w7 ⟨rfl, b7⟩
        have b8 := b6.trans (b7.mono b6.size)
        have L7 := L6.below b7 L6.lt
        have M7 := M6.below b7 M6.lt
        have B7 := B6.below b7 B6.lt
        have yb : B3 w7 w5.heap.size 52 _ _ _ := (b7.block _ y6.lt).trans y6
        have z0 := yb.c0
        have z1 := yb.c1
        have z2 := yb.c2
        have xb : B3 w7 w3.heap.size 52 _ _ _ := (b7.block _ x6.lt).trans x6
        have v0 := xb.c0
        have v1 := xb.c1
        have v2 := xb.c2
        have hyl := yb.lt
        have hxl := xb.lt
        clear CS b7 b6 L6 M6 B6 y6 o0 o1 o2
        have CT := hid (sure_any q2 r A3 B _ M7 B7 H3)
        clear L7 M7 B7
        go_wp2_with fail
        refine CT.out.mono ?_
        rintro e w8 ⟨rfl, b9⟩
        have b10 := b8.trans (b9.mono b8.size)
        have yc : B3 w8 w5.heap.size 52 _ _ _ := (b9.block _ hyl).trans yb
        have xc : B3 w8 w3.heap.size 52 _ _ _ := (b9.block _ hxl).trans xb
        clear CT b9 b8 z0 z1 z2 v0 v1 v2
        have z0 := yc.c0
        have z1 := yc.c1
        have z2 := yc.c2
        have v0 := xc.c0
        have v1 := xc.c1
        have v2 := xc.c2
        clear yb xb yc xc
        go_wp2
        go_ret
        exact ⟨rfl, b10⟩
  · obtain ⟨rfl, rfl, rfl, H3⟩ := F3.out hc
    have hu : ¬ (gas : Int) < u2 := fun h => hc (.inl h)
    have h5 : ¬ e2 = 5 := fun h => hc (.inr h)
    have m1 : (e2 == 5) = false := by simpa using h5
    clear F2 F3 hc
    by_cases he : e2 = 0
    · subst he
      clear F1 h5 m1
      have CS := hid (alike_any q q2 A1 A3 _ L6 M6 H3)
      clear M6 L6 B6
      go_wp2_with fail
      refine CS.out.mono ?_
      rintro e w7 ⟨rfl, b7⟩
      have b8 := b6.trans (b7.mono b6.size)
      have yb : B3 w7 w5.heap.size 52 _ _ _ := (b7.block _ y6.lt).trans y6
      have z0 := yb.c0
      have z1 := yb.c1
      have z2 := yb.c2
      have xb : B3 w7 w3.heap.size 52 _ _ _ := (b7.block _ x6.lt).trans x6
      have v0 := xb.c0
      have v1 := xb.c1
      have v2 := xb.c2
      clear CS b7 b6 yb xb y6 o0 o1 o2
      go_wp2
      go_ret
      exact ⟨rfl, b8⟩
    · have HO := hid (F1.out he)
      have n1 : (e2 == 0) = false := by simpa using he
      have n2 : (e2 != 0) = true := by simpa using he
      clear F1
      have CS := hid (sure_any q r A1 B _ L6 B6 HO.out)
      go_wp2_with fail
      refine CS.out.mono ?_
      rintro e w7 ⟨rfl, b7⟩
      have b8 := b6.trans (b7.mono b6.size)
      have L7 := L6.below b7 L6.lt
      have M7 := M6.below b7 M6.lt
      have B7 := B6.below b7 B6.lt
      have yb : B3 w7 w5.heap.size 52 _ _ _ := (b7.block _ y6.lt).trans y6
      have z0 := yb.c0
      have z1 := yb.c1
      have z2 := yb.c2
      have xb : B3 w7 w3.heap.size 52 _ _ _ := (b7.block _ x6.lt).trans x6
      have v0 := xb.c0
      have v1 := xb.c1
      have v2 := xb.c2
      have hyl := yb.lt
      have hxl := xb.lt
      clear CS b7 b6 L6 M6 B6 y6 o0 o1 o2
      have CT := hid (alike_any q q2 A1 A3 _ L7 M7 H3)
      clear L7 M7 B7
      go_wp2_with fail
      refine CT.out.mono ?_
      rintro e w8 ⟨rfl, b9⟩
      have b10 := b8.trans (b9.mono b8.size)
      have yc : B3 w8 w5.heap.size 52 _ _ _ := (b9.block _ hyl).trans yb
      have xc : B3 w8 w3.heap.size 52 _ _ _ := (b9.block _ hxl).trans xb
      clear CT b9 b8 z0 z1 z2 v0 v1 v2
      have z0 := yc.c0
      have z1 := yc.c1
      have z2 := yc.c2
      have v0 := xc.c0
      have v1 := xc.c1
      have v2 := xc.c2
      clear yb xb yc xc
      go_wp2
      go_ret
      exact ⟨rfl, b10⟩
end Go.Proofs.Ytjamgmbdilkbcaa
