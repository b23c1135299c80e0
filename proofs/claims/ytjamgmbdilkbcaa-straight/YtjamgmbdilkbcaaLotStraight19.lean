import Derived.Test.YtjamgmbdilkbcaaLotStraight18
/- Straight: place, drop, open. -/
namespace Go.Proofs.Ytjamgmbdilkbcaa
open Go.RowKit

section
variable {w w' : World} {q : Nat} {l : Ln.L}
theorem LO.lt (h : LO w q l) : q < w.heap.size := by
  obtain ⟨v, s, _⟩ := h
  exact s.lt
theorem LO.c9 (h : LO w q l) : w.cell? ⟨q, 9, none⟩ = some (.bool l.well) := by
  obtain ⟨v, s, _⟩ := h
  exact s.c9
theorem LO.cf (h : LO w q l) (i : Nat) (hi : i < 6) : w.cell? ⟨q, 3 + i, none⟩ = some (.bool (l.full.getD i false)) := by
  obtain ⟨v, s, _⟩ := h
  exact s.cf i hi
theorem LO.fz (h : LO w q l) (i : Nat) : w.frozen? ⟨q, i, none⟩ = false := by
  obtain ⟨v, s, _⟩ := h
  exact s.fz i
theorem LO.set9 (h : LO w q l) (b : Bool) : LO (w.setCell ⟨q, 9, none⟩ (.bool b)) q { l with well := b } := by
  obtain ⟨v, s, ho⟩ := h
  refine ⟨v, s.set9 b, owns_block ho fun k hk => ?_⟩
  have := ho.lt k hk
  rw [Below.heap_setCell _ _ _ _ (by show k ≠ q; omega)]
theorem LO.setf (h : LO w q l) (i : Nat) (hi : i < 6) (b : Bool) : LO (w.setCell ⟨q, 3 + i, none⟩ (.bool b)) q { l with full := l.full.set i b } := by
  obtain ⟨v, s, ho⟩ := h
  refine ⟨v, s.setf i hi b, owns_block ho fun k hk => ?_⟩
  have := ho.lt k hk
  rw [Below.heap_setCell _ _ _ _ (by show k ≠ q; omega)]
theorem LO.stack (h : LO w q l) : ∃ a c, w.cell? ⟨q, 2, none⟩ = some (.slice a l.stk.length c) := by
  obtain ⟨v, s, ho⟩ := h
  obtain ⟨a, c, rfl⟩ := owns_shape ho
  exact ⟨a, c, s.c2⟩
end

set_option maxRecDepth 100000 in
set_option maxHeartbeats 1000000 in
theorem kcopy_any (q i : Nat) (l : Ln.L) (w : World) (h : LO w q l) (hi : i < 6) (hw : l.well = true) (hc : l.code.length ≤ 1000) (hl : l.stk.length ≤ 1000) :
    Calls Try.prog 55 #[.pointer (some ⟨q, 0, none⟩), .int .i64 8, .int .i64 i] w fun e w' => LDone w w' q (Ln.copyAt i l) e := by
  obtain ⟨FL, hFL⟩ : ∃ FL, FL = Ln.copyAt i l := ⟨_, rfl⟩
  rw [← hFL]
  have HFL := hid hFL
  clear hFL
  go_enter Try.func55, Try.ntmps55
  go_wp2_with fail
  refine (kplaces_any i hi w).mono ?_
  rintro e w' ⟨rfl, rfl⟩
  go_wp2_with fail
  refine (kmayCopy_any _ w').mono ?_
  rintro e w'' ⟨rfl, rfl⟩
  go_wp2_with fail
  refine (kmayDrop_any _ w'').mono ?_
  rintro e w ⟨rfl, rfl⟩
  go_wp2_with fail
  refine (kwrite_any q 8 i l w h hc).mono ?_
  rintro e w1 ⟨rfl, h1, hb1⟩
  have c9 := h1.c9
  have cf := h1.cf i hi
  have z9 := h1.fz 9
  have e1 : (Ln.write 8 (i : Int) l).well = l.well := rfl
  have e2 : (Ln.write 8 (i : Int) l).full = l.full := rfl
  rw [e1, hw] at c9
  rw [e2] at cf
  have h2 := h1.set9 (l.full.getD i false && Ln.mayCopy (Ln.place i))
  have hb2 := hb1.setCell (p := ⟨q, 9, none⟩) (Nat.le_refl _) (.bool (l.full.getD i false && Ln.mayCopy (Ln.place i)))
  have HR : Hid (Ln.copyAt i l = Ln.put (Ln.place i) { Ln.write 8 (i : Int) l with well := l.full.getD i false && Ln.mayCopy (Ln.place i) }) := by
    show _ = _
    unfold Ln.copyAt
    rw [hw, Bool.true_and]
  have C := kput_any q (Ln.place i) _ _ h2 hl
  rw [← HR.out, ← HFL.out] at C
  have D := hid C
  clear C h h1 h2 hb1 e1 e2 HR
  generalize l.full.getD i false = B1 at *
  generalize Ln.mayCopy (Ln.place i) = B2 at *
  generalize Ln.place i = k at *
  generalize Ln.mayDrop k = B3 at *
  cases B1 <;> cases B2 <;>
  · go_wp2_with fail
    refine D.out.mono ?_
    rintro e w3 ⟨rfl, h3, hb3⟩
    have FIN : Hid (LDone w w3 q _ (.returned (.tuple #[]))) := ⟨rfl, h3, hb2.trans hb3⟩
    clear D h3 hb3 hb2
    go_wp2
    go_end0
    exact FIN.out

set_option maxRecDepth 100000 in
set_option maxHeartbeats 1000000 in
theorem kmove_any (q i : Nat) (l : Ln.L) (w : World) (h : LO w q l) (hi : i < 6) (hw : l.well = true) (hc : l.code.length ≤ 1000) (hl : l.stk.length ≤ 1000) :
    Calls Try.prog 55 #[.pointer (some ⟨q, 0, none⟩), .int .i64 9, .int .i64 i] w fun e w' => LDone w w' q (Ln.moveAt i l) e := by
  obtain ⟨FL, hFL⟩ : ∃ FL, FL = Ln.moveAt i l := ⟨_, rfl⟩
  rw [← hFL]
  have HFL := hid hFL
  clear hFL
  go_enter Try.func55, Try.ntmps55
  go_wp2_with fail
  refine (kplaces_any i hi w).mono ?_
  rintro e w' ⟨rfl, rfl⟩
  go_wp2_with fail
  refine (kmayCopy_any _ w').mono ?_
  rintro e w'' ⟨rfl, rfl⟩
  go_wp2_with fail
  refine (kmayDrop_any _ w'').mono ?_
  rintro e w ⟨rfl, rfl⟩
  go_wp2_with fail
  refine (kwrite_any q 9 i l w h hc).mono ?_
  rintro e w1 ⟨rfl, h1, hb1⟩
  have c9 := h1.c9
  have cf := h1.cf i hi
  have z9 := h1.fz 9
  have e1 : (Ln.write 9 (i : Int) l).well = l.well := rfl
  have e2 : (Ln.write 9 (i : Int) l).full = l.full := rfl
  rw [e1, hw] at c9
  rw [e2] at cf
  have h2 := h1.set9 (l.full.getD i false)
  have z3 := h2.fz (3 + i)
  have d3 := h2.cf i hi
  have h3 := h2.setf i hi false
  have hb2 := (hb1.setCell (p := ⟨q, 9, none⟩) (Nat.le_refl _) (.bool (l.full.getD i false))).setCell (p := ⟨q, 3 + i, none⟩) (Nat.le_refl _) (.bool false)
  have HR : Hid (Ln.moveAt i l = Ln.put (Ln.place i) { Ln.write 9 (i : Int) l with well := l.full.getD i false, full := l.full.set i false }) := by
    show _ = _
    unfold Ln.moveAt
    rw [hw, Bool.true_and]
  have C := kput_any q (Ln.place i) _ _ h3 hl
  have e3 : ({ Ln.write 9 (i : Int) l with well := l.full.getD i false } : Ln.L).full = l.full := rfl
  rw [e3] at d3
  have C : Calls Try.prog 53 #[.pointer (some ⟨q, 0, none⟩), .int .i64 (Ln.place i)] ((w1.setCell ⟨q, 9, none⟩ (.bool (l.full.getD i false))).setCell ⟨q, 3 + i, none⟩ (.bool false)) fun e w' => LDone ((w1.setCell ⟨q, 9, none⟩ (.bool (l.full.getD i false))).setCell ⟨q, 3 + i, none⟩ (.bool false)) w' q (Ln.put (Ln.place i) { Ln.write 9 (i : Int) l with well := l.full.getD i false, full := l.full.set i false }) e := C
  rw [← HR.out, ← HFL.out] at C
  have D := hid C
  clear C h h1 h2 h3 hb1 e1 e2 e3 HR
  generalize l.full.getD i false = B1 at *
  generalize Ln.mayCopy (Ln.place i) = B2 at *
  generalize Ln.place i = k at *
  generalize Ln.mayDrop k = B3 at *
  cases B1 <;>
  · go_wp2_with fail
    refine D.out.mono ?_
    rintro e w3 ⟨rfl, h5, hb3⟩
    have FIN : Hid (LDone w w3 q _ (.returned (.tuple #[]))) := ⟨rfl, h5, hb2.trans hb3⟩
    clear D h5 hb3 hb2
    go_wp2
    go_end0
    exact FIN.out

set_option maxRecDepth 100000 in
set_option maxHeartbeats 1000000 in
theorem kkeep_any (q i : Nat) (l : Ln.L) (w : World) (h : LO w q l) (hi : i < 6) (hw : l.well = true) (hc : l.code.length ≤ 1000) (hl : l.stk.length ≤ 1000) :
    Calls Try.prog 55 #[.pointer (some ⟨q, 0, none⟩), .int .i64 10, .int .i64 i] w fun e w' => LDone w w' q (Ln.keepAt i l) e := by
  obtain ⟨FL, hFL⟩ : ∃ FL, FL = Ln.keepAt i l := ⟨_, rfl⟩
  rw [← hFL]
  have HFL := hid hFL
  clear hFL
  go_enter Try.func55, Try.ntmps55
  go_wp2_with fail
  refine (kplaces_any i hi w).mono ?_
  rintro e w' ⟨rfl, rfl⟩
  go_wp2_with fail
  refine (kmayCopy_any _ w').mono ?_
  rintro e w'' ⟨rfl, rfl⟩
  go_wp2_with fail
  refine (kmayDrop_any _ w'').mono ?_
  rintro e w ⟨rfl, rfl⟩
  go_wp2_with fail
  refine (kwrite_any q 10 i l w h hc).mono ?_
  rintro e w1 ⟨rfl, h1, hb1⟩
  have c9 := h1.c9
  have cf := h1.cf i hi
  have z9 := h1.fz 9
  have e1 : (Ln.write 10 (i : Int) l).well = l.well := rfl
  have e2 : (Ln.write 10 (i : Int) l).full = l.full := rfl
  rw [e1, hw] at c9
  rw [e2] at cf
  have h2 := h1.set9 (!(l.full.getD i false) || Ln.mayDrop (Ln.place i))
  have hb2 := hb1.setCell (p := ⟨q, 9, none⟩) (Nat.le_refl _) (.bool (!(l.full.getD i false) || Ln.mayDrop (Ln.place i)))
  have HR : Hid (Ln.keepAt i l = { Ln.take (Ln.place i) { Ln.write 10 (i : Int) l with well := !(l.full.getD i false) || Ln.mayDrop (Ln.place i) } with full := (Ln.take (Ln.place i) { Ln.write 10 (i : Int) l with well := !(l.full.getD i false) || Ln.mayDrop (Ln.place i) }).full.set i true }) := by
    show _ = _
    unfold Ln.keepAt
    rw [hw, Bool.true_and]
  have C := ktake_any q (Ln.place i) _ _ h2 hl
  have D := hid C
  have HF2 : Hid _ := hid (HFL.out.trans HR.out)
  clear C h h1 h2 hb1 e1 e2 HR HFL
  generalize Ln.take (Ln.place i) { Ln.write 10 (i : Int) l with well := !(l.full.getD i false) || Ln.mayDrop (Ln.place i) } = GL at *
  generalize l.full.getD i false = B1 at *
  generalize Ln.mayCopy (Ln.place i) = B2 at *
  generalize Ln.mayDrop (Ln.place i) = B3 at *
  generalize Ln.place i = k at *
  cases B1 <;> cases B3 <;>
  · go_wp2_with fail
    refine D.out.mono ?_
    rintro e w3 ⟨rfl, h3, hb3⟩
    have z3 := h3.fz (3 + i)
    have d3 := h3.cf i hi
    have h4 := h3.setf i hi true
    have FIN : Hid (LDone w (w3.setCell ⟨q, 3 + i, none⟩ (.bool true)) q FL (.returned (.tuple #[]))) := ⟨rfl, by rw [HF2.out]; exact h4, (hb2.trans hb3).setCell (p := ⟨q, 3 + i, none⟩) (Nat.le_refl _) _⟩
    clear D h3 h4 hb3 hb2
    go_wp2
    go_end0
    exact FIN.out

set_option maxRecDepth 100000 in
set_option maxHeartbeats 1000000 in
theorem kdrop_any (q : Nat) (l : Ln.L) (w : World) (h : LO w q l) (hw : l.well = true) (hc : l.code.length ≤ 1000) (hl : l.stk.length ≤ 1000) :
    Calls Try.prog 56 #[.pointer (some ⟨q, 0, none⟩)] w fun e w' => LDone w w' q (Ln.drop l) e := by
  go_enter Try.func56, Try.ntmps56
  go_wp2_with fail
  refine (kwrite_any q 11 0 l w h hc).mono ?_
  rintro e w1 ⟨rfl, h1, hb1⟩
  have c9 := h1.c9
  have z9 := h1.fz 9
  have z2 := h1.fz 2
  have e1 : (Ln.write 11 0 l).well = l.well := rfl
  rw [e1, hw] at c9
  obtain ⟨v, s, ho⟩ := h1
  have c2 := s.c2
  have e2 : (Ln.write 11 0 l).stk = l.stk := rfl
  rw [e2] at ho
  by_cases hs : l.stk = []
  · have hd : Ln.drop l = { Ln.write 11 0 l with well := false } := by unfold Ln.drop; rw [if_pos hs]
    obtain ⟨a, c, rfl⟩ := owns_shape ho
    have h2 := LO.set9 ⟨_, s, ho⟩ false
    have FIN : Hid (LDone w (w1.setCell ⟨q, 9, none⟩ (.bool false)) q (Ln.drop l) (.returned (.tuple #[]))) := by
      rw [hd]; exact ⟨rfl, h2, hb1.setCell (p := ⟨q, 9, none⟩) (Nat.le_refl _) _⟩
    have hl0 : l.stk.length = 0 := by rw [hs]; rfl
    rw [hl0] at c2
    clear h h2 s ho hb1 hd hs hl0 hl e1 e2
    go_wp2
    refine bodyPost_ret (results_none rfl _ _ _) rfl ?_
    exact FIN.out
  · obtain ⟨r, kk, hrk⟩ : ∃ r kk, l.stk = r ++ [kk] := ⟨l.stk.dropLast, l.stk.getLast hs, (List.dropLast_concat_getLast hs).symm⟩
    have hd : Ln.drop l = { Ln.write 11 0 l with well := Ln.mayDrop kk, stk := r } := by
      unfold Ln.drop; rw [if_neg hs, hw, Bool.true_and, hrk]; simp
    rcases ho.2 with ⟨_, hn⟩ | ⟨g, cap, cur, rfl, hB, hg, hnc, hcm, hcs, htake⟩
    · rw [hrk] at hn; simp at hn
    have hln : l.stk.length = r.length + 1 := by rw [hrk]; simp
    have cK : w1.cell? ⟨g, r.length, none⟩ = some (.int .i64 kk) := by
      have h3 : List.take (l.stk.length * 1) cur.toList = iv l.stk := htake
      have h4 : (iv l.stk)[r.length]? = some (.int .i64 kk) := by rw [hrk]; simp [iv]
      rw [← h3, List.getElem?_take, if_pos (by omega)] at h4
      unfold World.cell?
      simp only [hg]
      simpa using h4
    have ho2 : w1.ownsRow (q + 1) 3 1 (.slice (some ⟨g, 0, none⟩) r.length cap) r.length (iv r) := by
      have h := ho
      rw [hrk, iv_snoc, show (r ++ [kk]).length = r.length + 1 from by simp] at h
      exact owns_front h (by rw [iv_len]; omega) (by omega) rfl
    have s2 := (s.set9 (Ln.mayDrop kk)).set2 (.slice (some ⟨g, 0, none⟩) r.length cap) r
    have d2 := (s.set9 (Ln.mayDrop kk)).c2
    have y2 := (s.set9 (Ln.mayDrop kk)).fz 2
    have FIN : Hid (LDone w ((w1.setCell ⟨q, 9, none⟩ (.bool (Ln.mayDrop kk))).setCell ⟨q, 2, none⟩ (.slice (some ⟨g, 0, none⟩) r.length cap)) q (Ln.drop l) (.returned (.tuple #[]))) := by
      rw [hd]
      refine ⟨rfl, ⟨_, s2, owns_block ho2 fun b hb => ?_⟩, (hb1.setCell (p := ⟨q, 9, none⟩) (Nat.le_refl _) _).setCell (p := ⟨q, 2, none⟩) (Nat.le_refl _) _⟩
      have hk2 := ho2.lt b hb
      rw [Below.heap_setCell _ _ _ _ (by show b ≠ q; omega), Below.heap_setCell _ _ _ _ (by show b ≠ q; omega)]
    obtain ⟨n, hn⟩ : ∃ n, n = r.length := ⟨_, rfl⟩
    rw [hln, ← hn] at c2 d2
    rw [← hn] at cK FIN
    have hn1000 : n ≤ 1000 := by omega
    have hnc2 : n + 1 ≤ cap := by omega
    have wn1 : wrap64 ((n : Int) + 1 - 1) = n := by unfold wrap64; omega
    have wn2 : (0 : Int) ≤ (n : Int) := by omega
    have wn3 : (n : Int) ≤ (cap : Int) := by omega
    clear s2 s ho ho2 hrk hd hln hn hnc hcm hcs htake hg cur hB hs h hb1 hl
    have HD := hid (kmayDrop_any kk w1)
    generalize Ln.mayDrop kk = B at *
    go_wp2_with fail
    refine HD.out.mono ?_
    rintro e w3 ⟨rfl, rfl⟩
    cases B <;>
    · go_wp2
      go_end0
      exact FIN.out

set_option maxRecDepth 100000 in
set_option maxHeartbeats 1000000 in
theorem kopen_any (q : Nat) (k : Int) (l : Ln.L) (w : World) (h : LO w q l) (hc : l.code.length ≤ 1000) (hl : l.stk.length ≤ 1000) :
    Calls Try.prog 57 #[.pointer (some ⟨q, 0, none⟩), .int .i64 k] w fun e w' => LDone w w' q (Ln.open_ k l) e := by
  obtain ⟨FL, hFL⟩ : ∃ FL, FL = Ln.open_ k l := ⟨_, rfl⟩
  rw [← hFL]
  have HFL := hid hFL
  clear hFL
  go_enter Try.func57, Try.ntmps57
  go_wp2_with fail
  refine (kwrite_any q 13 k l w h hc).mono ?_
  rintro e w1 ⟨rfl, h1, hb1⟩
  go_wp2_with fail
  refine (ktake_any q k _ w1 h1 hl).mono ?_
  rintro e w2 ⟨rfl, h2, hb2⟩
  go_wp2_with fail
  refine (kput_any q 0 _ w2 h2 (Nat.le_trans Ln.take_len hl)).mono ?_
  rintro e w3 ⟨rfl, h3, hb3⟩
  have FIN : Hid (LDone w w3 q FL (.returned (.tuple #[]))) := ⟨rfl, by rw [HFL.out]; exact h3, (hb1.trans hb2).trans hb3⟩
  clear h1 h2 h3 hb1 hb2 hb3 h HFL
  go_wp2
  go_end0
  exact FIN.out
end Go.Proofs.Ytjamgmbdilkbcaa

/- Straight: does. -/
namespace Go.Proofs.Ytjamgmbdilkbcaa
open Go.RowKit

theorem pick_rng (c : Int) : 0 ≤ Ln.pick c 600 ∧ Ln.pick c 600 < 600 := by unfold Ln.pick; split <;> omega

/-- what does hangs on, with its numbers hidden. -/
structure DoesN (d r P : Int) (E : Int) (a b4 : Nat) : Prop where
  t1 : d.tmod 10 = r
  t2 : wrap64 (d.tdiv 10) = E
  t3 : E.tmod 6 = (a : Int)
  t4 : d.tmod 250 = P
  t5 : (a : Int).tmod 4 = (b4 : Int)
  wb : wrap64 ((b4 : Int) + 1) = (b4 : Int) + 1
  ha : a < 6
  hb : b4 = a % 4

theorem does_n (c : Int) : ∃ d r P E a b4, Ln.pick c 600 = d ∧ d % 10 = r ∧ d % 250 = P ∧ Ln.arg c = a ∧ (0 ≤ r ∧ r < 10) ∧ DoesN d r P E a b4 := by
  have hp := pick_rng c
  have ha := Ln.arg_lt c
  refine ⟨_, _, _, Ln.pick c 600 / 10, _, Ln.arg c % 4, rfl, rfl, rfl, rfl, by omega, ⟨Int.tmod_eq_emod_of_nonneg hp.1, ?_, ?_, Int.tmod_eq_emod_of_nonneg hp.1, ?_, ?_, ha, rfl⟩⟩
  · rw [Int.tdiv_eq_ediv_of_nonneg hp.1]; unfold wrap64; omega
  · rw [Int.tmod_eq_emod_of_nonneg (by omega)]; unfold Ln.arg; omega
  · rw [Int.tmod_eq_emod_of_nonneg (by omega)]; omega
  · unfold wrap64; omega

set_option maxRecDepth 100000 in
set_option maxHeartbeats 2000000 in
theorem kdoes0 (q : Nat) (c d P E : Int) (a b4 : Nat) (l FL : Ln.L) (w : World) (h : LO w q l) (_hw : l.well = true) (hc : l.code.length ≤ 1000) (hl : l.stk.length ≤ 1000) (D0 : Hid (Calls Try.prog 21 #[.int .i64 c, .int .i64 600] w fun e w' => e = .returned (.int .i64 d) ∧ w' = w)) (N : DoesN d 0 P E a b4) (HFL : Hid (FL = Ln.put 0 (Ln.write 1 P l))) :
    Calls Try.prog 26 #[.pointer (some ⟨q, 0, none⟩), .int .i64 c] w fun e w' => LDone w w' q FL e := by
  obtain ⟨t1, t2, t3, t4, t5, wb, ha, hb⟩ := N
  clear hb
  have HA := hid ha
  clear ha
  go_enter Try.func26, Try.ntmps26
  go_wp2_with fail
  refine D0.out.mono ?_
  rintro e w0 ⟨rfl, rfl⟩
  go_wp2_with fail
  refine (kwrite_any q 1 P l w0 h hc).mono ?_
  rintro e w1 ⟨rfl, h1, hb1⟩
  go_wp2_with fail
  refine (kput_any q 0 _ w1 h1 hl).mono ?_
  rintro e w2 ⟨rfl, h2, hb2⟩
  have FIN : Hid (LDone w0 w2 q FL (.returned (.tuple #[]))) := ⟨rfl, by rw [HFL.out]; exact h2, (hb1).trans hb2⟩
  clear h1 hb1 h2 hb2 h HFL D0
  go_wp2
  go_end0
  exact FIN.out

set_option maxRecDepth 100000 in
set_option maxHeartbeats 2000000 in
theorem kdoes1 (q : Nat) (c d P E : Int) (a b4 : Nat) (l FL : Ln.L) (w : World) (h : LO w q l) (_hw : l.well = true) (hc : l.code.length ≤ 1000) (hl : l.stk.length ≤ 1000) (D0 : Hid (Calls Try.prog 21 #[.int .i64 c, .int .i64 600] w fun e w' => e = .returned (.int .i64 d) ∧ w' = w)) (N : DoesN d 1 P E a b4) (HFL : Hid (FL = Ln.put 0 (Ln.take 0 (Ln.take 0 (Ln.write 4 0 l))))) :
    Calls Try.prog 26 #[.pointer (some ⟨q, 0, none⟩), .int .i64 c] w fun e w' => LDone w w' q FL e := by
  obtain ⟨t1, t2, t3, t4, t5, wb, ha, hb⟩ := N
  clear hb
  have HA := hid ha
  clear ha
  go_enter Try.func26, Try.ntmps26
  go_wp2_with fail
  refine D0.out.mono ?_
  rintro e w0 ⟨rfl, rfl⟩
  go_wp2_with fail
  refine (kwrite_any q 4 0 l w0 h hc).mono ?_
  rintro e w1 ⟨rfl, h1, hb1⟩
  go_wp2_with fail
  refine (ktake_any q 0 _ w1 h1 hl).mono ?_
  rintro e w2 ⟨rfl, h2, hb2⟩
  go_wp2_with fail
  refine (ktake_any q 0 _ w2 h2 (Nat.le_trans Ln.take_len hl)).mono ?_
  rintro e w3 ⟨rfl, h3, hb3⟩
  go_wp2_with fail
  refine (kput_any q 0 _ w3 h3 (Nat.le_trans Ln.take_len (Nat.le_trans Ln.take_len hl))).mono ?_
  rintro e w4 ⟨rfl, h4, hb4⟩
  have FIN : Hid (LDone w0 w4 q FL (.returned (.tuple #[]))) := ⟨rfl, by rw [HFL.out]; exact h4, (((hb1).trans hb2).trans hb3).trans hb4⟩
  clear h1 hb1 h2 hb2 h3 hb3 h4 hb4 h HFL D0
  go_wp2
  go_end0
  exact FIN.out

set_option maxRecDepth 100000 in
set_option maxHeartbeats 2000000 in
theorem kdoes2 (q : Nat) (c d P E : Int) (a b4 : Nat) (l FL : Ln.L) (w : World) (h : LO w q l) (hw : l.well = true) (hc : l.code.length ≤ 1000) (hl : l.stk.length ≤ 1000) (D0 : Hid (Calls Try.prog 21 #[.int .i64 c, .int .i64 600] w fun e w' => e = .returned (.int .i64 d) ∧ w' = w)) (N : DoesN d 2 P E a b4) (HFL : Hid (FL = Ln.moveAt a l)) :
    Calls Try.prog 26 #[.pointer (some ⟨q, 0, none⟩), .int .i64 c] w fun e w' => LDone w w' q FL e := by
  obtain ⟨t1, t2, t3, t4, t5, wb, ha, hb⟩ := N
  clear hb
  have HA := hid ha
  clear ha
  go_enter Try.func26, Try.ntmps26
  go_wp2_with fail
  refine D0.out.mono ?_
  rintro e w0 ⟨rfl, rfl⟩
  go_wp2_with fail
  refine (kmove_any q a l w0 h HA.out hw hc hl).mono ?_
  rintro e w1 ⟨rfl, h1, hb1⟩
  have FIN : Hid (LDone w0 w1 q FL (.returned (.tuple #[]))) := ⟨rfl, by rw [HFL.out]; exact h1, hb1⟩
  clear h1 hb1 h HFL D0
  go_wp2
  go_end0
  exact FIN.out

set_option maxRecDepth 100000 in
set_option maxHeartbeats 2000000 in
theorem kdoes3 (q : Nat) (c d P E : Int) (a b4 : Nat) (l FL : Ln.L) (w : World) (h : LO w q l) (hw : l.well = true) (hc : l.code.length ≤ 1000) (hl : l.stk.length ≤ 1000) (D0 : Hid (Calls Try.prog 21 #[.int .i64 c, .int .i64 600] w fun e w' => e = .returned (.int .i64 d) ∧ w' = w)) (N : DoesN d 3 P E a b4) (HFL : Hid (FL = Ln.moveAt a l)) :
    Calls Try.prog 26 #[.pointer (some ⟨q, 0, none⟩), .int .i64 c] w fun e w' => LDone w w' q FL e := by
  obtain ⟨t1, t2, t3, t4, t5, wb, ha, hb⟩ := N
  clear hb
  have HA := hid ha
  clear ha
  go_enter Try.func26, Try.ntmps26
  go_wp2_with fail
  refine D0.out.mono ?_
  rintro e w0 ⟨rfl, rfl⟩
  go_wp2_with fail
  refine (kmove_any q a l w0 h HA.out hw hc hl).mono ?_
  rintro e w1 ⟨rfl, h1, hb1⟩
  have FIN : Hid (LDone w0 w1 q FL (.returned (.tuple #[]))) := ⟨rfl, by rw [HFL.out]; exact h1, hb1⟩
  clear h1 hb1 h HFL D0
  go_wp2
  go_end0
  exact FIN.out

set_option maxRecDepth 100000 in
set_option maxHeartbeats 2000000 in
theorem kdoes4 (q : Nat) (c d P E : Int) (a b4 : Nat) (l FL : Ln.L) (w : World) (h : LO w q l) (hw : l.well = true) (hc : l.code.length ≤ 1000) (hl : l.stk.length ≤ 1000) (D0 : Hid (Calls Try.prog 21 #[.int .i64 c, .int .i64 600] w fun e w' => e = .returned (.int .i64 d) ∧ w' = w)) (N : DoesN d 4 P E a b4) (HFL : Hid (FL = Ln.copyAt a l)) :
    Calls Try.prog 26 #[.pointer (some ⟨q, 0, none⟩), .int .i64 c] w fun e w' => LDone w w' q FL e := by
  obtain ⟨t1, t2, t3, t4, t5, wb, ha, hb⟩ := N
  clear hb
  have HA := hid ha
  clear ha
  go_enter Try.func26, Try.ntmps26
  go_wp2_with fail
  refine D0.out.mono ?_
  rintro e w0 ⟨rfl, rfl⟩
  go_wp2_with fail
  refine (kcopy_any q a l w0 h HA.out hw hc hl).mono ?_
  rintro e w1 ⟨rfl, h1, hb1⟩
  have FIN : Hid (LDone w0 w1 q FL (.returned (.tuple #[]))) := ⟨rfl, by rw [HFL.out]; exact h1, hb1⟩
  clear h1 hb1 h HFL D0
  go_wp2
  go_end0
  exact FIN.out

set_option maxRecDepth 100000 in
set_option maxHeartbeats 2000000 in
theorem kdoes5 (q : Nat) (c d P E : Int) (a b4 : Nat) (l FL : Ln.L) (w : World) (h : LO w q l) (hw : l.well = true) (hc : l.code.length ≤ 1000) (hl : l.stk.length ≤ 1000) (D0 : Hid (Calls Try.prog 21 #[.int .i64 c, .int .i64 600] w fun e w' => e = .returned (.int .i64 d) ∧ w' = w)) (N : DoesN d 5 P E a b4) (HFL : Hid (FL = Ln.copyAt a l)) :
    Calls Try.prog 26 #[.pointer (some ⟨q, 0, none⟩), .int .i64 c] w fun e w' => LDone w w' q FL e := by
  obtain ⟨t1, t2, t3, t4, t5, wb, ha, hb⟩ := N
  clear hb
  have HA := hid ha
  clear ha
  go_enter Try.func26, Try.ntmps26
  go_wp2_with fail
  refine D0.out.mono ?_
  rintro e w0 ⟨rfl, rfl⟩
  go_wp2_with fail
  refine (kcopy_any q a l w0 h HA.out hw hc hl).mono ?_
  rintro e w1 ⟨rfl, h1, hb1⟩
  have FIN : Hid (LDone w0 w1 q FL (.returned (.tuple #[]))) := ⟨rfl, by rw [HFL.out]; exact h1, hb1⟩
  clear h1 hb1 h HFL D0
  go_wp2
  go_end0
  exact FIN.out

set_option maxRecDepth 100000 in
set_option maxHeartbeats 2000000 in
theorem kdoes6 (q : Nat) (c d P E : Int) (a b4 : Nat) (l FL : Ln.L) (w : World) (h : LO w q l) (hw : l.well = true) (hc : l.code.length ≤ 1000) (hl : l.stk.length ≤ 1000) (D0 : Hid (Calls Try.prog 21 #[.int .i64 c, .int .i64 600] w fun e w' => e = .returned (.int .i64 d) ∧ w' = w)) (N : DoesN d 6 P E a b4) (HFL : Hid (FL = Ln.keepAt a l)) :
    Calls Try.prog 26 #[.pointer (some ⟨q, 0, none⟩), .int .i64 c] w fun e w' => LDone w w' q FL e := by
  obtain ⟨t1, t2, t3, t4, t5, wb, ha, hb⟩ := N
  clear hb
  have HA := hid ha
  clear ha
  go_enter Try.func26, Try.ntmps26
  go_wp2_with fail
  refine D0.out.mono ?_
  rintro e w0 ⟨rfl, rfl⟩
  go_wp2_with fail
  refine (kkeep_any q a l w0 h HA.out hw hc hl).mono ?_
  rintro e w1 ⟨rfl, h1, hb1⟩
  have FIN : Hid (LDone w0 w1 q FL (.returned (.tuple #[]))) := ⟨rfl, by rw [HFL.out]; exact h1, hb1⟩
  clear h1 hb1 h HFL D0
  go_wp2
  go_end0
  exact FIN.out

set_option maxRecDepth 100000 in
set_option maxHeartbeats 2000000 in
theorem kdoes7 (q : Nat) (c d P E : Int) (a b4 : Nat) (l FL : Ln.L) (w : World) (h : LO w q l) (hw : l.well = true) (hc : l.code.length ≤ 1000) (hl : l.stk.length ≤ 1000) (D0 : Hid (Calls Try.prog 21 #[.int .i64 c, .int .i64 600] w fun e w' => e = .returned (.int .i64 d) ∧ w' = w)) (N : DoesN d 7 P E a b4) (HFL : Hid (FL = Ln.drop l)) :
    Calls Try.prog 26 #[.pointer (some ⟨q, 0, none⟩), .int .i64 c] w fun e w' => LDone w w' q FL e := by
  obtain ⟨t1, t2, t3, t4, t5, wb, ha, hb⟩ := N
  clear hb
  have HA := hid ha
  clear ha
  go_enter Try.func26, Try.ntmps26
  go_wp2_with fail
  refine D0.out.mono ?_
  rintro e w0 ⟨rfl, rfl⟩
  go_wp2_with fail
  refine (kdrop_any q l w0 h hw hc hl).mono ?_
  rintro e w1 ⟨rfl, h1, hb1⟩
  have FIN : Hid (LDone w0 w1 q FL (.returned (.tuple #[]))) := ⟨rfl, by rw [HFL.out]; exact h1, hb1⟩
  clear h1 hb1 h HFL D0
  go_wp2
  go_end0
  exact FIN.out

set_option maxRecDepth 100000 in
set_option maxHeartbeats 2000000 in
theorem kdoes8 (q : Nat) (c d P E : Int) (a b4 : Nat) (l FL : Ln.L) (w : World) (h : LO w q l) (_hw : l.well = true) (hc : l.code.length ≤ 1000) (hl : l.stk.length ≤ 1000) (D0 : Hid (Calls Try.prog 21 #[.int .i64 c, .int .i64 600] w fun e w' => e = .returned (.int .i64 d) ∧ w' = w)) (N : DoesN d 8 P E a b4) (HFL : Hid (FL = Ln.put ((b4 : Int) + 1) (Ln.take 0 (Ln.write 12 ((b4 : Int) + 1) l)))) :
    Calls Try.prog 26 #[.pointer (some ⟨q, 0, none⟩), .int .i64 c] w fun e w' => LDone w w' q FL e := by
  obtain ⟨t1, t2, t3, t4, t5, wb, ha, hb⟩ := N
  clear hb
  have HA := hid ha
  clear ha
  go_enter Try.func26, Try.ntmps26
  go_wp2_with fail
  refine D0.out.mono ?_
  rintro e w0 ⟨rfl, rfl⟩
  go_wp2_with fail
  refine (kwrite_any q 12 ((b4 : Int) + 1) l w0 h hc).mono ?_
  rintro e w1 ⟨rfl, h1, hb1⟩
  go_wp2_with fail
  refine (ktake_any q 0 _ w1 h1 hl).mono ?_
  rintro e w2 ⟨rfl, h2, hb2⟩
  go_wp2_with fail
  refine (kput_any q ((b4 : Int) + 1) _ w2 h2 (Nat.le_trans Ln.take_len hl)).mono ?_
  rintro e w3 ⟨rfl, h3, hb3⟩
  have FIN : Hid (LDone w0 w3 q FL (.returned (.tuple #[]))) := ⟨rfl, by rw [HFL.out]; exact h3, ((hb1).trans hb2).trans hb3⟩
  clear h1 hb1 h2 hb2 h3 hb3 h HFL D0
  go_wp2
  go_end0
  exact FIN.out

set_option maxRecDepth 100000 in
set_option maxHeartbeats 2000000 in
theorem kdoes9 (q : Nat) (c d P E : Int) (a b4 : Nat) (l FL : Ln.L) (w : World) (h : LO w q l) (_hw : l.well = true) (hc : l.code.length ≤ 1000) (hl : l.stk.length ≤ 1000) (D0 : Hid (Calls Try.prog 21 #[.int .i64 c, .int .i64 600] w fun e w' => e = .returned (.int .i64 d) ∧ w' = w)) (N : DoesN d 9 P E a b4) (HFL : Hid (FL = Ln.open_ ((b4 : Int) + 1) l)) :
    Calls Try.prog 26 #[.pointer (some ⟨q, 0, none⟩), .int .i64 c] w fun e w' => LDone w w' q FL e := by
  obtain ⟨t1, t2, t3, t4, t5, wb, ha, hb⟩ := N
  clear hb
  have HA := hid ha
  clear ha
  go_enter Try.func26, Try.ntmps26
  go_wp2_with fail
  refine D0.out.mono ?_
  rintro e w0 ⟨rfl, rfl⟩
  go_wp2_with fail
  refine (kopen_any q ((b4 : Int) + 1) l w0 h hc hl).mono ?_
  rintro e w1 ⟨rfl, h1, hb1⟩
  have FIN : Hid (LDone w0 w1 q FL (.returned (.tuple #[]))) := ⟨rfl, by rw [HFL.out]; exact h1, hb1⟩
  clear h1 hb1 h HFL D0
  go_wp2
  go_end0
  exact FIN.out

theorem kdoes_any (q : Nat) (c : Int) (l : Ln.L) (w : World) (h : LO w q l) (hr : -9223372036854775808 ≤ c ∧ c ≤ 9223372036854775807) (hw : l.well = true) (hc : l.code.length ≤ 1000) (hl : l.stk.length ≤ 1000) :
    Calls Try.prog 26 #[.pointer (some ⟨q, 0, none⟩), .int .i64 c] w fun e w' => LDone w w' q (Ln.does c l) e := by
  obtain ⟨d, r, P, E, a, b4, hd, hr1, hP, ha, hr2, N⟩ := does_n c
  have D0 := hid (kpick_any c 600 hr (by omega) w)
  rw [hd] at D0
  have hb := N.hb
  have h10 : r = 0 ∨ r = 1 ∨ r = 2 ∨ r = 3 ∨ r = 4 ∨ r = 5 ∨ r = 6 ∨ r = 7 ∨ r = 8 ∨ r = 9 := by omega
  unfold Ln.does
  simp only [hd, ha, hr1, hP]
  rcases h10 with rfl | rfl | rfl | rfl | rfl | rfl | rfl | rfl | rfl | rfl
  · exact kdoes0 q c d P E a b4 l _ w h hw hc hl D0 N (hid (by simp))
  · exact kdoes1 q c d P E a b4 l _ w h hw hc hl D0 N (hid (by simp))
  · exact kdoes2 q c d P E a b4 l _ w h hw hc hl D0 N (hid (by simp))
  · exact kdoes3 q c d P E a b4 l _ w h hw hc hl D0 N (hid (by simp))
  · exact kdoes4 q c d P E a b4 l _ w h hw hc hl D0 N (hid (by simp))
  · exact kdoes5 q c d P E a b4 l _ w h hw hc hl D0 N (hid (by simp))
  · exact kdoes6 q c d P E a b4 l _ w h hw hc hl D0 N (hid (by simp))
  · exact kdoes7 q c d P E a b4 l _ w h hw hc hl D0 N (hid (by simp))
  · exact kdoes8 q c d P E a b4 l _ w h hw hc hl D0 N (hid (by simp [hb]))
  · exact kdoes9 q c d P E a b4 l _ w h hw hc hl D0 N (hid (by simp [hb]))
end Go.Proofs.Ytjamgmbdilkbcaa
