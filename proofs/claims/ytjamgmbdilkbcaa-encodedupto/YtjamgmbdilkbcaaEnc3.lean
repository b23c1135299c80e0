/- The document's Encode: whole. -/
import Derived.Test.YtjamgmbdilkbcaaEnc2
namespace Go.Proofs.Ytjamgmbdilkbcaa
open Go.RowKit

set_option maxRecDepth 100000 in
set_option maxHeartbeats 2000000 in
theorem whole_any (p : Nat) (b : ByteArray) (w : World) (h : Ct w p b 0 (bd (0, false))) (hs : b.size ≤ maxLen) :
    Calls Try.prog 75 #[.pointer (some ⟨p, 0, none⟩)] w fun e w' =>
      e = .returned (.tuple #[]) ∧ Ct w' p b (Pu.atEnd b (Pu.module b).2).1 (bd (Pu.atEnd b (Pu.module b).2)) ∧ w.grownBy w' (some p) := by
  go_enter Try.func75, Try.ntmps75
  go_wp2_with fail
  refine (next_any _ b (0, false) 67 67 _ h hs).mono ?_
  rintro e w1 ⟨rfl, ct1, g1, _⟩
  clear h
  generalize hq : Pu.number b 67 67 (0, false) = q at *
  have H1 : Hid _ := hq
  clear hq
  obtain ⟨c1, s1⟩ := q
  simp only at *
  go_wp2_with fail
  refine (next_any _ b _ 70 70 _ ct1 hs).mono ?_
  rintro e w2 ⟨rfl, ct2, hg, _⟩
  have g2 := grown_trans g1 hg
  clear ct1 hg g1
  generalize hq : Pu.number b 70 70 s1 = q at *
  have H2 : Hid _ := hq
  clear hq
  obtain ⟨c2, s2⟩ := q
  simp only at *
  go_wp2_with fail
  refine (some_any _ b s2 6 3 _ ct2 hs).mono ?_
  rintro e w4 ⟨v, l, rfl, hk4, hl4, ct4, hg, E1⟩
  have g4 := grown_trans g2 hg
  clear ct2 hg g2
  obtain ⟨ao, cap, rfl⟩ := owns_shape hk4
  clear hk4
  generalize hq : Pu.list b 6 3 s2 = q at *
  have H3 : Hid _ := hq
  have HE : Hid _ := E1
  clear hq E1
  obtain ⟨ks, s4⟩ := q
  simp only at *
  go_wp2_with fail
  refine (next_any _ b s4 1 8 _ ct4 hs).mono ?_
  rintro e w6 ⟨rfl, ct6, hg, _⟩
  have g6 := grown_trans g4 hg
  clear ct4 hg g4
  have hn0 := Pu.number_rng b 1 8 s4
  have HZ : Hid ((Pu.number b 1 8 s4).2.2 = true → (Pu.number b 1 8 s4).1 = 0) := number_zero
  have HP : Hid ((Pu.number b 1 8 s4).2.2 = false → s4.2 = false) := number_pre
  generalize hq : Pu.number b 1 8 s4 = q at *
  have H4 : Hid _ := hq
  clear hq
  obtain ⟨nn, s5⟩ := q
  simp only at *
  obtain ⟨n, rfl⟩ := Int.eq_ofNat_of_zero_le hn0.1
  have hn : n ≤ 255 := by omega
  clear hn0
  have HMo : Hid (Pu.module b = (⟨ks, (Pu.fns b ks.length n s5 n).1⟩, (Pu.fns b ks.length n s5 n).2)) := by
    show _ = _
    simp only [Pu.module, H1.out, H2.out, H3.out, H4.out, Int.toNat_natCast]
  have HL : Hid (s5.2 = false → l = ks) := fun h5 => HE.out (HP.out h5)
  clear H1 H2 H3 H4 HE HP
  go_wp2
  go_loopw [4] (fun i wr => ∃ k : Nat, k ≤ n ∧ i = .int .i64 k ∧ Ct wr p b (Pu.fns b ks.length n s5 k).2.1 (bd (Pu.fns b ks.length n s5 k).2) ∧ w.grownBy wr (some p)) (fun i _ => n - (intOf i).toNat)
  case atStart => exact ⟨0, Nat.zero_le _, rfl, ct6, g6⟩
  case round =>
    obtain ⟨k, hk, rfl, ct, g⟩ := hrel
    clear ct6 g6
    have e2 := ct.c2
    by_cases hlt : k < n ∧ (Pu.fns b ks.length n s5 k).2.2 = false
    · obtain ⟨hkn, hfine⟩ := hlt
      have hbn := bd_neg.2 hfine
      have h5 : s5.2 = false := by
        cases hx : s5.2 with
        | false => rfl
        | true => have := HZ.out hx; omega
      have hlk := HL.out h5
      subst hlk
      clear h5
      go_wp2_with fail
      refine (rfunc_any _ b _ l.length n wr ct hs (by omega) (by omega)).mono ?_
      rintro e w7 ⟨x, f, rfl, hx, ct7, hg, E7⟩
      have g7 := grown_trans g hg
      have HS : Hid (Pu.fns b l.length n s5 (k + 1) = ((Pu.fns b l.length n s5 k).1 ++ [(Pu.func b l.length n (Pu.fns b l.length n s5 k).2).1], (Pu.func b l.length n (Pu.fns b l.length n s5 k).2).2)) := rfl
      clear ct hx hg E7 e2 hfine hbn g
      generalize Pu.func b l.length n (Pu.fns b l.length n s5 k).2 = q at *
      obtain ⟨pf, s7⟩ := q
      simp only at *
      go_wp2
      go_roundw
      case rel => exact ⟨k + 1, hkn, by go_num, by rw [HS.out]; exact ct7, g7⟩
      case measure => simp [intOf]; omega
    · have hst : (Pu.fns b ks.length n s5 n).2 = (Pu.fns b ks.length n s5 k).2 := by
        by_cases e : k = n
        · subst e; rfl
        · have hb : (Pu.fns b ks.length n s5 k).2.2 = true := by
            cases hx : (Pu.fns b ks.length n s5 k).2.2 with
            | true => rfl
            | false => exact absurd ⟨by omega, hx⟩ hlt
          exact fns_stuck b ks.length n s5 k hb n (by omega)
      have HM : Hid ((Pu.module b).2 = (Pu.fns b ks.length n s5 k).2) := by
        show _ = _
        rw [HMo.out, ← hst]
      have HLT : Hid _ := hlt
      clear hlt hst
      by_cases hkn : k < n
      · have hbx : ¬ bd (Pu.fns b ks.length n s5 k).2 < 0 := fun h0 => HLT.out ⟨hkn, bd_neg.1 h0⟩
        clear HLT
        generalize Pu.fns b ks.length n s5 k = q at *
        obtain ⟨pf, s7⟩ := q
        simp only at *
        go_wp2_with fail
        refine (rend_any _ b _ _ ct).mono ?_
        rintro e w10 ⟨rfl, ct10, hg⟩
        have g10 := grown_trans g hg
        clear hg g ct e2 hbx
        have fin : Ct w10 p b (Pu.atEnd b (Pu.module b).2).1 (bd (Pu.atEnd b (Pu.module b).2)) := by rw [HM.out]; exact ct10
        have FIN : Hid _ := fin
        clear fin ct10
        go_wp2
        go_end0
        exact ⟨rfl, FIN.out, g10⟩
      · clear HLT
        generalize Pu.fns b ks.length n s5 k = q at *
        obtain ⟨pf, s7⟩ := q
        simp only at *
        go_wp2_with fail
        refine (rend_any _ b _ _ ct).mono ?_
        rintro e w10 ⟨rfl, ct10, hg⟩
        have g10 := grown_trans g hg
        clear hg g ct e2
        have fin : Ct w10 p b (Pu.atEnd b (Pu.module b).2).1 (bd (Pu.atEnd b (Pu.module b).2)) := by rw [HM.out]; exact ct10
        have FIN : Hid _ := fin
        clear fin ct10
        go_wp2
        go_end0
        exact ⟨rfl, FIN.out, g10⟩
end Go.Proofs.Ytjamgmbdilkbcaa
