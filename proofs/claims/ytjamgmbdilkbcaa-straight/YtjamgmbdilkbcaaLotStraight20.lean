import Derived.Test.YtjamgmbdilkbcaaLotStraight19
/- Straight: clean, left. -/
namespace Go.Proofs.Ytjamgmbdilkbcaa
open Go.RowKit

/-- the uppermost cell of the stack. -/
theorem LO.top {w : World} {q : Nat} {l : Ln.L} (h : LO w q l) {n : Nat} (hn : l.stk.length = n + 1) : ∃ g cap, w.cell? ⟨q, 2, none⟩ = some (.slice (some ⟨g, 0, none⟩) (n + 1) cap) ∧ w.cell? ⟨g, n, none⟩ = some (.int .i64 (l.stk.getLast?.getD 0)) := by
  obtain ⟨v, s, ho⟩ := h
  rcases ho.2 with ⟨_, h0⟩ | ⟨g, cap, cur, rfl, hB, hg, hnc, hcm, hcs, htake⟩
  · rw [hn] at h0; omega
  · refine ⟨g, cap, by rw [s.c2, hn], ?_⟩
    have h3 : List.take (l.stk.length * 1) cur.toList = iv l.stk := htake
    have h4 : (iv l.stk)[n]? = some (.int .i64 (l.stk.getLast?.getD 0)) := by
      unfold iv
      rw [List.getElem?_map, List.getLast?_eq_getElem?, hn, show n + 1 - 1 = n from by omega, List.getElem?_eq_getElem (by omega)]
      rfl
    rw [← h3, List.getElem?_take, if_pos (by omega)] at h4
    unfold World.cell?
    simp only [hg]
    simpa using h4

set_option maxRecDepth 100000 in
set_option maxHeartbeats 1000000 in
theorem kleft_any (q : Nat) (l : Ln.L) (w : World) (h : LO w q l) :
    Calls Try.prog 29 #[.pointer (some ⟨q, 0, none⟩)] w fun e w' => e = .returned (.bool (Ln.left l)) ∧ Alike w w' := by
  have HR : Hid (∀ k, k < 6 → (l.full.getD k false && !Ln.mayDrop (Ln.place k)) = true → Ln.left l = false) := hid fun k hk hb => by
    unfold Ln.left
    rw [Bool.and_eq_false_iff]
    left
    rw [List.all_eq_false]
    refine ⟨k, List.mem_range.2 hk, ?_⟩
    simp only [Bool.and_eq_true, Bool.not_eq_true'] at hb
    rw [hb.1, hb.2]
    simp
  have HS : Hid ((∀ k, k < 6 → (l.full.getD k false && !Ln.mayDrop (Ln.place k)) = false) → Ln.left l = decide (l.stk.length = 0)) := hid fun hall => by
    unfold Ln.left
    have h1 : (List.range 6).all (fun i => !(l.full.getD i false) || Ln.mayDrop (Ln.place i)) = true := by
      rw [List.all_eq_true]
      intro i hi
      have := hall i (List.mem_range.1 hi)
      revert this
      cases l.full.getD i false <;> cases Ln.mayDrop (Ln.place i) <;> simp
    rw [h1, Bool.true_and]
    simp
  obtain ⟨FB, hFB⟩ : ∃ FB, FB = Ln.left l := ⟨_, rfl⟩
  rw [← hFB]
  have HFB := hid hFB
  clear hFB
  obtain ⟨a2, c2, d2⟩ := h.stack
  have HH := hid h
  clear h
  go_enter Try.func29, Try.ntmps29
  go_wp2
  go_loopw [3] (fun i wr => ∃ k : Nat, k ≤ 6 ∧ i = .int .i64 k ∧ (∀ j, j < k → (l.full.getD j false && !Ln.mayDrop (Ln.place j)) = false) ∧ Alike w wr) (fun i _ => 6 - (intOf i).toNat)
  case atStart => exact ⟨0, Nat.zero_le _, rfl, fun j hj => by omega, ⟨rfl, rfl, rfl, rfl⟩⟩
  case round =>
    obtain ⟨k, hk, rfl, hg, ha⟩ := hrel
    have HG := hid hg
    have HA := hid ha
    have d2' : wr.cell? ⟨q, 2, none⟩ = some (.slice a2 l.stk.length c2) := by rw [World.cell?_of_block (w := w) (by rw [HA.out.1])]; exact d2
    clear hg ha
    by_cases hlt : k < 6
    · have d3 := (HH.out.alike HA.out.1).cf k hlt
      clear d2 d2'
      have HG2 : Hid ((l.full.getD k false && !Ln.mayDrop (Ln.place k)) = false → ∀ j, j < k + 1 → (l.full.getD j false && !Ln.mayDrop (Ln.place j)) = false) := hid fun h0 j hj => by
        by_cases hjk : j < k
        · exact HG.out j hjk
        · rw [show j = k from by omega]; exact h0
      have HB := hid (HR.out k hlt)
      have C2 := hid fun W => kmayDrop_any (Ln.place k) W
      clear HG HR HS
      go_wp2_with fail
      refine (kplaces_any k hlt wr).mono ?_
      rintro e w1 ⟨rfl, rfl⟩
      go_wp2_with fail
      refine (C2.out _).mono ?_
      rintro e w2 ⟨rfl, rfl⟩
      clear C2
      generalize l.full.getD k false = B1 at *
      generalize Ln.mayDrop (Ln.place k) = B2 at *
      cases B1 <;> cases B2
      case true.false =>
        have hfb : FB = false := HFB.out.trans (HB.out rfl)
        subst hfb
        clear HB HG2 HFB
        go_wp2
        go_ret
        exact ⟨rfl, HA.out⟩
      all_goals (
        have HG3 := hid (HG2.out rfl)
        clear HG2 HB
        go_wp2
        go_roundw
        case rel => exact ⟨k + 1, hlt, by go_num, HG3.out, HA.out⟩
        case measure => simp [intOf]; omega)
    · have hk6 : k = 6 := by omega
      subst hk6
      have hfb : FB = decide (l.stk.length = 0) := HFB.out.trans (HS.out HG.out)
      subst hfb
      clear HG HR HS HFB d2
      go_wp2
      go_ret
      refine ⟨?_, HA.out⟩
      have e : ((l.stk.length : Int) == 0) = decide (l.stk.length = 0) := by rw [Bool.eq_iff_iff]; simp
      rw [e]
      rfl

set_option maxRecDepth 100000 in
set_option maxHeartbeats 2000000 in
theorem kclean_any (q : Nat) (l : Ln.L) (w : World) (h : LO w q l) (ho : Ln.Ok l) (hw : l.well = true) (hc : l.code.length ≤ 100) :
    Calls Try.prog 27 #[.pointer (some ⟨q, 0, none⟩)] w fun e w' => LDone w w' q (Ln.clean l) e := by
  have h16 := ho.short hw
  obtain ⟨a0, c0, d0⟩ := h.stack
  obtain ⟨N, hN⟩ : ∃ N, N = l.stk.length := ⟨_, rfl⟩
  have HN := hid hN
  rw [← hN] at d0 h16
  clear hN
  have Hh := hid h
  have Ho := hid ho
  have hq := h.lt
  clear h ho
  go_enter Try.func27, Try.ntmps27
  go_wp2
  go_loopw [2] (fun i wr => ∃ (k : Nat) (l1 : Ln.L), k ≤ N ∧ i = .int .i64 k ∧ LO wr q l1 ∧ Ln.Ok l1 ∧ l1.well = true ∧ l1.stk.length = k ∧ l1.code.length + 2 * k ≤ l.code.length + 2 * N ∧ Ln.clearN k l1 = Ln.clearN N l ∧ Below q w wr) (fun i _ => (intOf i).toNat)
  case atStart => exact ⟨N, l, Nat.le_refl _, rfl, Hh.out, Ho.out, hw, HN.out.symm, Nat.le_refl _, rfl, Below.refl _ _⟩
  case round =>
    obtain ⟨k, l1, hk, rfl, h1, o1, w1, hs1, hc1, he1, hb1⟩ := hrel
    clear d0
    obtain ⟨a1, c1, d1⟩ := h1.stack
    have HE := hid he1
    have O1 := hid o1
    clear he1 o1
    obtain ⟨n1, hn1⟩ : ∃ n1, n1 = l1.stk.length := ⟨_, rfl⟩
    rw [← hn1] at d1 hs1
    subst hs1
    by_cases hgo : 0 < n1
    · obtain ⟨n, rfl⟩ : ∃ n, n1 = n + 1 := ⟨n1 - 1, by omega⟩
      obtain ⟨g, cap, d2, dk⟩ := h1.top (n := n) hn1.symm
      have hne : l1.stk ≠ [] := fun e => by rw [e] at hn1; simp at hn1
      have hkr : 0 ≤ l1.stk.getLast?.getD 0 ∧ l1.stk.getLast?.getD 0 ≤ 4 := by
        rw [List.getLast?_eq_some_getLast hne]; exact O1.out.kinds _ (List.getLast_mem hne)
      obtain ⟨CL, eCL⟩ := Ln.clear1_ok O1.out w1 hne
      have HCL := hid CL
      have HST : Hid (Ln.clearN (n + 1) l1 = Ln.clearN n (Ln.clear1 l1)) := by show _ = _; conv => lhs; unfold Ln.clearN; rw [if_neg hne]
      have hdl : (Ln.clear1 l1).stk.length = n := by rw [eCL, List.length_dropLast, ← hn1]; omega
      have HDt : Hid (Ln.mayDrop (l1.stk.getLast?.getD 0) = true → Ln.clear1 l1 = Ln.drop l1) := hid fun h => by unfold Ln.clear1; simp only; rw [if_pos h]
      have HDf : Hid (Ln.mayDrop (l1.stk.getLast?.getD 0) = false → Ln.clear1 l1 = Ln.drop (Ln.open_ (l1.stk.getLast?.getD 0) l1)) := hid fun h => by unfold Ln.clear1; simp only; rw [if_neg (by rw [h]; simp)]
      have hop : Ln.mayDrop (l1.stk.getLast?.getD 0) = false → Ln.Ok (Ln.open_ (l1.stk.getLast?.getD 0) l1) ∧ (Ln.open_ (l1.stk.getLast?.getD 0) l1).well = true ∧ (Ln.open_ (l1.stk.getLast?.getD 0) l1).code.length ≤ 1000 ∧ (Ln.open_ (l1.stk.getLast?.getD 0) l1).stk.length ≤ 1000 := fun hm => by
        have hk1 : 1 ≤ l1.stk.getLast?.getD 0 := by
          have h0 : l1.stk.getLast?.getD 0 ≠ 0 := fun e => by rw [e] at hm; simp [Ln.mayDrop] at hm
          omega
        have hsn := Ln.getLast_snoc hne
        have hd16 : l1.stk.dropLast.length < 16 := by simp only [List.length_dropLast]; omega
        have e := Ln.open_well (r := l1.stk.dropLast) hsn.symm hd16
        refine ⟨Ln.open_ok O1.out w1 _ ⟨hk1, hkr.2⟩, ?_, ?_, ?_⟩
        · rw [e]; exact w1
        · rw [e]; simp only [List.length_append, List.length_singleton]; omega
        · rw [e]; simp only [List.length_append, List.length_singleton]; omega
      have HOP := hid hop
      have HH1 := hid h1
      have hc1000 : l1.code.length ≤ 1000 := by omega
      have hs1000 : l1.stk.length ≤ 1000 := by omega
      have wn1 : wrap64 ((n : Int) + 1 - 1) = n := by unfold wrap64; omega
      have HDL := hid hdl
      clear CL eCL hop h1 d1 hkr hne hn1 hdl
      generalize l1.stk.getLast?.getD 0 = kd at *
      have C0 := hid fun W => kmayDrop_any kd W
      generalize hMD : Ln.mayDrop kd = md at *
      clear hMD
      go_wp2_with fail
      go_quiet (fail)
      have bA := below_drewN (Below.refl wr.heap.size wr) nq
      have h2 : LO (wr.drewN nq) q l1 := HH1.out.alike rfl
      have hb2 : Below q w (wr.drewN nq) := hb1.trans (bA.mono (Nat.le_of_lt HH1.out.lt))
      clear bA HH1 hb1 d2 dk
      generalize wr.drewN nq = w2 at *
      go_wp2_with fail
      refine (C0.out w2).mono ?_
      rintro e w3 ⟨rfl, rfl⟩
      clear C0
      cases md with
      | true =>
        have CD := hid (kdrop_any q l1 w3 h2 w1 hc1000 hs1000)
        rw [← HDt.out rfl] at CD
        clear HDt HDf HOP
        go_wp2_with fail
        refine CD.out.mono ?_
        rintro e w4 ⟨rfl, h4, hb4⟩
        have hb5 := hb2.trans hb4
        clear CD h2 hb2 hb4
        go_wp2
        go_roundw
        case rel => exact ⟨n, Ln.clear1 l1, by omega, by go_num, h4, HCL.out.ok, HCL.out.well, HDL.out, by have := HCL.out.len; omega, by rw [← HST.out, HE.out], hb5⟩
        case measure => simp [intOf]
      | false =>
        obtain ⟨oo, ow, oc, os⟩ := HOP.out rfl
        have CO := hid (kopen_any q kd l1 w3 h2 hc1000 hs1000)
        have HDD := hid (HDf.out rfl)
        clear HDt HDf HOP
        go_wp2_with fail
        refine CO.out.mono ?_
        rintro e w4 ⟨rfl, h4, hb4⟩
        have CD := hid (kdrop_any q _ w4 h4 ow oc os)
        rw [← HDD.out] at CD
        have hb5 := hb2.trans hb4
        clear CO h2 hb2 hb4 HDD
        go_wp2_with fail
        refine CD.out.mono ?_
        rintro e w5 ⟨rfl, h5, hb6⟩
        have hb7 := hb5.trans hb6
        clear CD h4 hb5 hb6 oo ow oc os
        go_wp2
        go_roundw
        case rel => exact ⟨n, Ln.clear1 l1, by omega, by go_num, h5, HCL.out.ok, HCL.out.well, HDL.out, by have := HCL.out.len; omega, by rw [← HST.out, HE.out], hb7⟩
        case measure => simp [intOf]
    · have hs0 : l1.stk = [] := List.eq_nil_of_length_eq_zero (by omega)
      have HEQ : Hid (Ln.clearN N l = l1) := by
        show _ = _
        rw [← HE.out]
        rw [show n1 = 0 from by omega]
        rfl
      have h0 : n1 = 0 := by omega
      subst h0
      clear HE hgo
      have HCN : Hid (Ln.clean l = Ln.spotsN 6 l1) := by show _ = _; unfold Ln.clean; rw [← HN.out, HEQ.out]
      have hc2 : l1.code.length ≤ 132 := by omega
      have HS1 := hid hs0
      clear hs0 hn1 HEQ
      have L0 : LO wr q (Ln.spotsN 0 l1) := h1
      rw [show ((0 : Nat) : Int) = (0 : Int) from rfl]
      go_wp2_with fail
      go_loopw [5] (fun i wr => ∃ k : Nat, k ≤ 6 ∧ i = .int .i64 k ∧ LO wr q (Ln.spotsN k l1) ∧ Below q w wr) (fun i _ => 6 - (intOf i).toNat)
      case atStart => exact ⟨0, Nat.zero_le _, rfl, L0, hb1⟩
      case round =>
        clear L0 hb1 h1 d1
        obtain ⟨k, hk, rfl, h2, hb2⟩ := hrel
        by_cases hlt : k < 6
        · obtain ⟨o2, w2, s2, n2⟩ := Ln.spotsN_ok O1.out w1 HS1.out k hk
          have HNX : Hid (Ln.spotsN (k + 1) l1 = Ln.spot1 k (Ln.spotsN k l1)) := hid rfl
          have hn2 : (Ln.spotsN k l1).code.length ≤ 200 := by omega
          have hs2 : (Ln.spotsN k l1).stk.length = 0 := by rw [s2]; rfl
          obtain ⟨L2, hL2⟩ : ∃ L2, L2 = Ln.spotsN k l1 := ⟨_, rfl⟩
          rw [← hL2] at h2 HNX o2 w2 s2 hn2 hs2
          obtain ⟨L3, hL3⟩ : ∃ L3, L3 = Ln.spotsN (k + 1) l1 := ⟨_, rfl⟩
          rw [← hL3] at HNX
          have HL3 := hid hL3
          clear hL2 hL3 n2
          have d3 := h2.cf k hlt
          have C2 := hid fun W => kmayDrop_any (Ln.place k) W
          have CP := hid fun W => kplaces_any k hlt W
          have HNO : Hid (¬ (L2.full.getD k false = true ∧ Ln.mayDrop (Ln.place k) = false) → L3 = L2) := hid fun h => by rw [HNX.out]; unfold Ln.spot1; rw [if_neg h]
          have HYES : Hid (L2.full.getD k false = true → Ln.mayDrop (Ln.place k) = false → L3 = Ln.drop (Ln.open_ (Ln.place k) (Ln.moveAt k L2)) ∧ (Ln.moveAt k L2).code.length ≤ 300 ∧ (Ln.moveAt k L2).stk.length ≤ 300 ∧ (Ln.open_ (Ln.place k) (Ln.moveAt k L2)).well = true ∧ (Ln.open_ (Ln.place k) (Ln.moveAt k L2)).code.length ≤ 300 ∧ (Ln.open_ (Ln.place k) (Ln.moveAt k L2)).stk.length ≤ 300) := hid fun hf hm => by
            have e1 : Ln.moveAt k L2 = ⟨L2.code ++ [(9, (k : Int))], [Ln.place k], L2.full.set k false, true⟩ := by
              unfold Ln.moveAt Ln.put Ln.write; simp only [s2, w2, hf]; rfl
            have e2 := Ln.open_well (w := ⟨L2.code ++ [(9, (k : Int))], [Ln.place k], L2.full.set k false, true⟩) (r := []) (k := Ln.place k) rfl (by simp)
            refine ⟨by rw [HNX.out]; unfold Ln.spot1; rw [if_pos ⟨hf, hm⟩], ?_⟩
            rw [e1, e2]
            refine ⟨?_, ?_, rfl, ?_, ?_⟩ <;> simp only [List.length_append, List.length_cons, List.length_nil] <;> omega
          clear HNX o2 s2
          go_wp2_with fail
          refine (CP.out wr).mono ?_
          rintro e w3 ⟨rfl, rfl⟩
          go_wp2_with fail
          refine (C2.out _).mono ?_
          rintro e w4 ⟨rfl, rfl⟩
          generalize L2.full.getD k false = B1 at *
          generalize hB2 : Ln.mayDrop (Ln.place k) = B2 at *
          clear hB2
          cases B1 <;> cases B2
          case true.false =>
            obtain ⟨e3, b1, b2, b3, b4, b5⟩ := HYES.out rfl rfl
            have HE3 := hid e3
            clear e3 HYES HNO C2
            have CM := hid (kmove_any q k L2 w4 h2 hlt w2 (by omega) (by omega))
            go_wp2_with fail
            refine CM.out.mono ?_
            rintro e w5 ⟨rfl, h5, hb5⟩
            clear d3 h2
            go_wp2_with fail
            refine (CP.out w5).mono ?_
            rintro e w6 ⟨rfl, rfl⟩
            have CO := hid (kopen_any q (Ln.place k) _ w6 h5 (by omega) (by omega))
            clear h5
            go_wp2_with fail
            refine CO.out.mono ?_
            rintro e w7 ⟨rfl, h7, hb7⟩
            have CD := hid (kdrop_any q _ w7 h7 b3 (by omega) (by omega))
            rw [← HE3.out] at CD
            clear h7
            go_wp2_with fail
            refine CD.out.mono ?_
            rintro e w8 ⟨rfl, h8, hb8⟩
            have hb9 := ((hb2.trans hb5).trans hb7).trans hb8
            clear CM CO CD hb2 hb5 hb7 hb8 CP b1 b2 b3 b4 b5
            go_wp2
            go_roundw
            case rel => exact ⟨k + 1, hlt, by go_num, by rw [← HL3.out]; exact h8, hb9⟩
            case measure => simp [intOf]; omega
          all_goals (
            have e3 := HNO.out (by simp)
            have HE3 := hid e3
            clear e3 HNO HYES C2 CP
            go_wp2
            go_roundw
            case rel => exact ⟨k + 1, hlt, by go_num, by rw [← HL3.out, HE3.out]; exact h2, hb2⟩
            case measure => simp [intOf]; omega)
        · have hk6 : k = 6 := by omega
          subst hk6
          have FIN : Hid (LDone w wr q (Ln.clean l) (.returned (.tuple #[]))) := ⟨rfl, by rw [HCN.out]; exact h2, hb2⟩
          clear h2 hb2
          go_wp2
          go_end0
          exact FIN.out
end Go.Proofs.Ytjamgmbdilkbcaa
