import Derived.Test.YtjamgmbdilkbcaaGreatLotLedgers40
/- The document's spot, walked. -/
namespace Go.Proofs.YtjamgmbdilkbcaaGreat
open Go.RowKit

namespace Dw
open Dr (Gg Rm)

theorem SO.below {w w' : World} {B gq rq : Nat} {C : Cx} {g : Gg} {r : Rm} (h : SO w B gq rq C g r) (hb : Below w.heap.size w w') : SO w' B gq rq C g r := by
  obtain ⟨hv, sv, pv, kv, h⟩ := h
  exact ⟨hv, sv, pv, kv, h.below hb⟩
theorem SO.size {w : World} {B gq rq : Nat} {C : Cx} {g : Gg} {r : Rm} (h : SO w B gq rq C g r) : gq < B /\ B <= rq /\ rq < w.heap.size := by
  obtain ⟨hv, sv, pv, kv, h⟩ := h
  exact ⟨h.lt, h.le, h.rl⟩
theorem SO.m0 {w : World} {B gq rq : Nat} {C : Cx} {g : Gg} {r : Rm} (h : SO w B gq rq C g r) : w.cell? ⟨gq, 0, none⟩ = some C.ck /\ w.cell? ⟨gq, 1, none⟩ = some C.cf := by
  obtain ⟨hv, sv, pv, kv, h⟩ := h
  exact ⟨h.c0, h.c1⟩
theorem SO.loB {w w' : World} {B gq rq : Nat} {C : Cx} {g : Gg} {r : Rm} (h : SO w B gq rq C g r) (hb : Below w.heap.size w w') : Lo B gq C.P w w' := by
  obtain ⟨hv, sv, pv, kv, h⟩ := h
  exact h.loB hb
theorem wrong_iff {P Q : Prop} [Decidable P] [Decidable Q] (h : P ↔ Q) (e : Int) (g : Gg) : Dr.wrong P e g = Dr.wrong Q e g := by
  unfold Dr.wrong
  by_cases hp : P
  · have hq := h.1 hp; simp [hp, hq]
  · have hq : ¬ Q := fun q => hp (h.2 q); simp [hp, hq]
theorem put_spots (k n : Int) (g : Gg) (r : Rm) : (Dr.put k n g r).2.spots = r.spots /\ (Dr.put k n g r).2.kinds = r.kinds := by
  unfold Dr.put
  split
  · exact ⟨rfl, rfl⟩
  · split <;> exact ⟨rfl, rfl⟩
theorem take_spots (k : Int) (g : Gg) (r : Rm) : (Dr.take k g r).2.2.spots = r.spots /\ (Dr.take k g r).2.2.kinds = r.kinds := by
  unfold Dr.take
  split <;> exact ⟨rfl, rfl⟩
set_option maxRecDepth 100000 in
set_option maxHeartbeats 2000000 in
theorem dspot_any (w : World) (B gq rq : Nat) (C : Cx) (m : Pu.Md) (g : Gg) (r : Rm) (op : Int) (i : Nat) (h : SO w B gq rq C g r) (hm : MdR w gq C.ck C.cf m) (hi : i < r.kinds.length) (hs : r.spots.length = r.kinds.length) (hk : 0 <= r.kinds.getD i 0 /\ r.kinds.getD i 0 <= m.kinds.length) (hl : r.stk.length <= 16) (hi8 : r.kinds.length <= 8) (hop : op = 8 \/ op = 9 \/ op = 10) :
    Calls Tryz.prog 111 #[.pointer (some ⟨gq, 0, none⟩), .pointer (some ⟨rq, 0, none⟩), .int .i64 op, .int .i64 i] w fun e w' => e = .returned (.tuple #[]) /\ OpOut w w' B gq rq C (Dr.spot m op i g r) := by
  obtain ⟨z1, z2, z3⟩ := h.size
  obtain ⟨gk, ck, k1, k2⟩ := h.kinds hi
  obtain ⟨m0, m1⟩ := h.m0
  obtain ⟨a1, b1, hck⟩ := hm.k.shape
  obtain ⟨a2, b2, hcf⟩ := hm.v.shape
  have HD : Hid (Dr.spot m op i g r = _) := hid (by unfold Dr.spot; rfl)
  generalize hK : r.kinds.getD i 0 = K at *
  have M1 := hid fun (W : World) (hb : Below w.heap.size w W) => rmay_any m C.ck C.cf K 1 W (((hm.wide (by omega)).below hb).wide hb.size) hk
  have M2 := hid fun (W : World) (hb : Below w.heap.size w W) => rmay_any m C.ck C.cf K 2 W (((hm.wide (by omega)).below hb).wide hb.size) hk
  have HSO := hid fun (W : World) (hb : Below w.heap.size w W) => h.below hb
  have HMC := hid fun (W : World) (hb : Below w.heap.size w W) => (h.below hb).m0
  have hLo := hid fun (W : World) (hb : Below w.heap.size w W) => h.loB hb
  rw [hck] at M1 M2 m0
  rw [hcf] at M1 M2 m1
  have HCK := hid hck
  have HCF := hid hcf
  have b0 := Below.refl w.heap.size w
  have hi3 : i < r.spots.length := by omega
  have hii : i < 8 := by omega
  generalize r.kinds.length = NK at *
  clear hm h hck hcf
  go_enter Tryz.func111, Tryz.ntmps111
  go_wp2_with fail
  refine (M1.out _ b0).mono ?_
  rintro e w1 ⟨rfl, hb1⟩
  obtain ⟨m0', m1'⟩ := HMC.out w1 hb1
  rw [HCK.out] at m0'
  rw [HCF.out] at m1'
  go_wp2_with fail
  refine (M2.out _ hb1).mono ?_
  rintro e w2 ⟨rfl, hb2⟩
  have hb := hb1.trans (hb2.mono hb1.size)
  have S2 := HSO.out w2 hb
  have L2 := hLo.out w2 hb
  clear M1 M2 HSO HMC hLo m0 m1 m0' m1' hb1 hb2 hb HCK HCF k1 k2 b0
  have HSP := hid fun (W : World) (G : Gg) (R : Rm) (hW : SO W B gq rq C G R) (hR : R.spots = r.spots) => by
    have := hW.spots (i := i) (by rw [hR]; exact hi3)
    rw [hR] at this
    exact this
  generalize r.spots.getD i Dr.noSpot = sp at *
  generalize Fl.may m K 1 = c1 at *
  generalize Fl.may m K 2 = c2 at *
  obtain ⟨sf, sk, sn⟩ := sp
  simp only at *
  rcases hop with rfl | rfl | rfl
  · simp only [if_true] at HD
    obtain ⟨gp, cp, y0, _, y1, _, _, _, _⟩ := HSP.out _ _ _ S2 rfl
    cases sf <;> cases c1
    all_goals (
      go_wp2_with fail
      refine (dwrong_any _ B gq rq C g r _ 99 S2).mono ?_
      rintro e w3 ⟨rfl, o3⟩
      first
        | (rw [wrong_iff (P := (true = true)) (Q := false = false \/ false = false) (by simp)] at o3)
        | (rw [wrong_iff (P := (true = true)) (Q := false = false \/ true = false) (by simp)] at o3)
        | (rw [wrong_iff (P := (true = true)) (Q := true = false \/ false = false) (by simp)] at o3)
        | (rw [wrong_iff (P := (false = true)) (Q := true = false \/ true = false) (by simp)] at o3)
      obtain ⟨gp3, cp3, x0, _, _, _, x3, _, _⟩ := HSP.out _ _ _ o3.1 rfl
      go_wp2_with fail
      refine (dput_any _ B gq rq C _ r K _ o3.1 (by omega)).mono ?_
      rintro e w4 ⟨rfl, o4⟩
      have FF := hid (show OpOut w w4 B gq rq C _ from ⟨o4.1, (L2.trans o3.2).trans o4.2⟩)
      clear o3 o4 S2 L2 x0 x3 y0 y1 HSP
      go_wp2
      go_end0
      rw [HD.out]
      refine ⟨rfl, ?_⟩
      have F2 := FF.out
      first
        | exact F2
        | simpa [Dr.wrong] using F2)
  · simp only [show ¬ ((9 : Int) = 8) from by decide, if_false, if_true] at HD
    obtain ⟨gp, cp, y0, _, y1, _, _, _, _⟩ := HSP.out _ _ _ S2 rfl
    cases sf
    all_goals (
      go_wp2_with fail
      refine (dwrong_any _ B gq rq C g r _ 99 S2).mono ?_
      rintro e w3 ⟨rfl, o3⟩
      first
        | (rw [wrong_iff (P := (true = true)) (Q := false = false) (by simp)] at o3)
        | (rw [wrong_iff (P := (false = true)) (Q := true = false) (by simp)] at o3)
      obtain ⟨gp3, cp3, x0, _, _, _, x3, _, _⟩ := HSP.out _ _ _ o3.1 rfl
      go_wp2_with fail
      refine (dput_any _ B gq rq C _ r K _ o3.1 (by omega)).mono ?_
      rintro e w4 ⟨rfl, o4⟩
      have hps := fun G => (put_spots K sn G r).1
      obtain ⟨gp4, cp4, v0, vB, v1, v2, v3, vz, vf⟩ := HSP.out _ _ _ o4.1 (hps _)
      have fz0 := vz (i * 3)
      have fz1 := vz (i * 3 + 1)
      have fz2 := vz (i * 3 + 2)
      have FF := hid (show OpOut w _ B gq rq C _ from ⟨(vf Dr.noSpot).1, ((L2.trans o3.2).trans o4.2).trans (vf Dr.noSpot).2⟩)
      clear o3 o4 S2 L2 x0 x3 y0 y1 vf vz HSP
      unfold Dr.noSpot at FF
      go_wp2
      go_end0
      rw [HD.out]
      refine ⟨rfl, ?_⟩
      have F2 := FF.out
      rw [<- hps] at F2
      exact F2)
  · simp only [show ¬ ((10 : Int) = 8) from by decide, show ¬ ((10 : Int) = 9) from by decide, if_false] at HD
    have hps := take_spots K g r
    have T := hid (dtake_any w2 B gq rq C g r K S2 (by omega))
    generalize Dr.take K g r = tt at *
    obtain ⟨tn, tg, tr⟩ := tt
    simp only at *
    cases sf <;> cases c2
    all_goals (
      go_wp2_with fail
      refine T.out.mono ?_
      rintro e w3 ⟨rfl, o3⟩
      obtain ⟨gp3, cp3, x0, _, x1, _, _, _, _⟩ := HSP.out _ _ _ o3.1 hps.1
      go_wp2_with fail
      refine (dwrong_any _ B gq rq C tg tr _ 99 o3.1).mono ?_
      rintro e w4 ⟨rfl, o4⟩
      first
        | (rw [wrong_iff (P := (false = true)) (Q := false = true /\ false = false) (by simp)] at o4)
        | (rw [wrong_iff (P := (true = true)) (Q := true = true /\ false = false) (by simp)] at o4)
      obtain ⟨gp4, cp4, v0, vB, v1, v2, v3, vz, vf⟩ := HSP.out _ _ _ o4.1 hps.1
      have fz0 := vz (i * 3)
      have fz1 := vz (i * 3 + 1)
      have fz2 := vz (i * 3 + 2)
      have FF := hid (show OpOut w _ B gq rq C _ from ⟨(vf (true, K, tn)).1, ((L2.trans o3.2).trans o4.2).trans (vf (true, K, tn)).2⟩)
      clear o3 o4 S2 L2 x0 x1 vf vz T HSP
      go_wp2
      go_end0
      rw [HD.out]
      refine ⟨rfl, ?_⟩
      have F2 := FF.out
      rw [<- hps.1] at F2
      first
        | exact F2
        | (rw [wrong_iff (P := false = true /\ true = false) (Q := false = true /\ false = false) (by simp)]; exact F2)
        | (rw [wrong_iff (P := true = true /\ true = false) (Q := false = true /\ false = false) (by simp)]; exact F2))
end Dw
end Go.Proofs.YtjamgmbdilkbcaaGreat

/- The document's account: has, store. -/
namespace Go.Proofs.YtjamgmbdilkbcaaGreat
open Go.RowKit

namespace Dw
open Dr (Gg Rm)

theorem take_holds (k : Int) (g : Gg) (r : Rm) : (Dr.take k g r).2.1.holds = g.holds := by
  unfold Dr.take Dr.wrong
  split
  · rfl
  · simp only; split <;> rfl
theorem wrong_holds {P : Prop} [Decidable P] (e : Int) (g : Gg) : (Dr.wrong P e g).holds = g.holds := by
  unfold Dr.wrong; split <;> rfl
set_option maxRecDepth 100000 in
set_option maxHeartbeats 2000000 in
theorem dhas_any (w : World) (B gq rq : Nat) (C : Cx) (g : Gg) (r : Rm) (kind : Int) (h : SO w B gq rq C g r) (hl : r.stk.length <= 16) (hh : g.holds.length <= 900000) :
    Calls Tryz.prog 113 #[.pointer (some ⟨gq, 0, none⟩), .pointer (some ⟨rq, 0, none⟩), .int .i64 17, .int .i64 kind] w fun e w' => e = .returned (.tuple #[]) /\ OpOut w w' B gq rq C (Dr.account C.who 17 kind g r) := by
  have T := hid (dtake_any w B gq rq C g r 0 h (by omega))
  have HD : Hid (Dr.account C.who 17 kind g r = Dr.put 0 (if 0 <= Dr.find (Dr.wrong (8 <= (Dr.take 0 g r).1) 4 (Dr.take 0 g r).2.1).holds (Dr.take 0 g r).1 kind then 1 else 0) (Dr.wrong (8 <= (Dr.take 0 g r).1) 4 (Dr.take 0 g r).2.1) (Dr.take 0 g r).2.2) := hid (by unfold Dr.account; rfl)
  have l1 := take_len 0 g r
  have h1 := take_holds 0 g r
  generalize Dr.take 0 g r = t at *
  obtain ⟨tn, tg, tr⟩ := t
  simp only at *
  have h2 : (Dr.wrong (8 <= tn) 4 tg).holds.length <= 900000 := by rw [wrong_holds, h1]; exact hh
  clear h
  go_enter Tryz.func113, Tryz.ntmps113
  go_wp2_with fail
  refine T.out.mono ?_
  rintro e w1 ⟨rfl, o1⟩
  clear T
  go_wp2_with fail
  refine (dwrong_any w1 B gq rq C tg tr _ 4 o1.1).mono ?_
  rintro e w2 ⟨rfl, o2⟩
  rw [wrong_dec] at o2
  generalize Dr.wrong (8 <= tn) 4 tg = G1 at *
  have L2 := o1.2.trans o2.2
  obtain ⟨hv, sv, pv, kv, X2⟩ := o2.1
  obtain ⟨ao, cap, hvs⟩ := owns_shape X2.ho
  subst hvs
  have c2 := X2.c2
  have CF := hid (find_any G1.holds _ tn kind w2 (owns_hs X2.ho) (by omega))
  have HX := hid fun (W : World) (hb : Below w2.heap.size w2 W) => X2.below hb
  have HLo := hid fun (W : World) (hb : Below w2.heap.size w2 W) => X2.loB hb
  generalize Dr.find G1.holds tn kind = FI at *
  clear o1 o2 X2 h1
  go_wp2_with fail
  refine CF.out.mono ?_
  rintro e w3 ⟨rfl, hb3⟩
  have X3 := HX.out w3 hb3
  have L3 := L2.trans (HLo.out w3 hb3)
  by_cases hF : 0 <= FI
  · rw [if_pos hF] at HD
    have CP := hid (dput_any w3 B gq rq C G1 tr 0 1 ⟨_, _, _, _, X3⟩ (by omega))
    clear X3 HX HLo CF c2 hb3 L2
    go_wp2_with fail
    refine CP.out.mono ?_
    rintro e w4 ⟨rfl, o4⟩
    have FF := hid (show OpOut w w4 B gq rq C _ from ⟨o4.1, L3.trans o4.2⟩)
    clear CP o4 L3
    go_wp2
    refine bodyPost_ret (results_none rfl _ _ _) rfl ?_
    rw [HD.out]
    exact ⟨rfl, FF.out⟩
  · rw [if_neg hF] at HD
    have CP := hid (dput_any w3 B gq rq C G1 tr 0 0 ⟨_, _, _, _, X3⟩ (by omega))
    clear X3 HX HLo CF c2 hb3 L2
    go_wp2_with fail
    refine CP.out.mono ?_
    rintro e w4 ⟨rfl, o4⟩
    have FF := hid (show OpOut w w4 B gq rq C _ from ⟨o4.1, L3.trans o4.2⟩)
    clear CP o4 L3
    go_wp2
    refine bodyPost_ret (results_none rfl _ _ _) rfl ?_
    rw [HD.out]
    exact ⟨rfl, FF.out⟩
theorem last_snoc (l : List (Int × Int)) (a : Int × Int) (k : Int) : (((l ++ [a]).getLast?).map (·.1) = some k) ↔ a.1 = k := by simp
set_option maxRecDepth 100000 in
set_option maxHeartbeats 4000000 in
theorem dstore_any (w : World) (B gq rq : Nat) (C : Cx) (g : Gg) (r : Rm) (kind : Int) (h : SO w B gq rq C g r) (hl : r.stk.length <= 16) (hh : g.holds.length <= 900000) :
    Calls Tryz.prog 113 #[.pointer (some ⟨gq, 0, none⟩), .pointer (some ⟨rq, 0, none⟩), .int .i64 16, .int .i64 kind] w fun e w' => e = .returned (.tuple #[]) /\ OpOut w w' B gq rq C (Dr.account C.who 16 kind g r) := by
  obtain ⟨j0, hj0, hy0, hy1, hy2⟩ := info_parts Tryz.info145
  have T := hid (dtake_any w B gq rq C g r 0 h (by omega))
  have l1 := take_len 0 g r
  have h1 := take_holds 0 g r
  have HD : Hid (Dr.account C.who 16 kind g r = _) := hid (by unfold Dr.account; simp only [show ¬ ((16 : Int) = 15) from by decide, show ¬ ((16 : Int) = 17) from by decide, if_false, if_true]; rfl)
  generalize Dr.take 0 g r = t at *
  obtain ⟨tn, tg, tr⟩ := t
  simp only at *
  have h2 : (Dr.wrong (8 <= tn) 4 tg).holds.length <= 900000 := by rw [wrong_holds, h1]; exact hh
  clear h
  go_enter Tryz.func113, Tryz.ntmps113
  go_wp2_with fail
  refine T.out.mono ?_
  rintro e w1 ⟨rfl, o1⟩
  clear T
  go_wp2_with fail
  refine (dwrong_any w1 B gq rq C tg tr _ 4 o1.1).mono ?_
  rintro e w2 ⟨rfl, o2⟩
  rw [wrong_dec] at o2
  generalize Dr.wrong (8 <= tn) 4 tg = G1 at *
  have L2 := o1.2.trans o2.2
  obtain ⟨hv, sv, pv, kv, X2⟩ := o2.1
  obtain ⟨ao, cap, hvs⟩ := owns_shape X2.ho
  subst hvs
  have c2 := X2.c2
  have CF := hid (find_any G1.holds _ tn kind w2 (owns_hs X2.ho) (by omega))
  have HX := hid fun (W : World) (hb : Below w2.heap.size w2 W) => X2.below hb
  have HLo := hid fun (W : World) (hb : Below w2.heap.size w2 W) => X2.loB hb
  generalize Dr.find G1.holds tn kind = FI at *
  clear o1 o2 X2 h1
  go_wp2_with fail
  refine CF.out.mono ?_
  rintro e w3 ⟨rfl, hb3⟩
  have X3 := HX.out w3 hb3
  have L3 := L2.trans (HLo.out w3 hb3)
  obtain ⟨av, scap, hsv⟩ := owns_shape X3.so
  subst hsv
  have r0 := X3.r0
  have S3 : SO w3 B gq rq C G1 tr := ⟨_, _, _, _, X3⟩
  have REST : Hid (∀ (b : Bool), (b = true ↔ ¬ (tr.stk.getLast?).map (·.1) = some kind) -> Dr.wrong (b = true) 99 G1 = Dr.wrong (¬ (tr.stk.getLast?).map (·.1) = some kind) 99 G1) := hid fun b hb => wrong_iff hb 99 G1
  have hw2 : (Dr.wrong (¬ (tr.stk.getLast?).map (·.1) = some kind) 99 G1).holds.length <= 900000 := by rw [wrong_holds]; exact h2
  clear HX HLo CF c2 hb3 L2
  have hcase : tr.stk = [] \/ ∃ l a, tr.stk = l ++ [a] := by
    by_cases hs : tr.stk = []
    · exact .inl hs
    · exact .inr ⟨tr.stk.dropLast, tr.stk.getLast hs, (List.dropLast_concat_getLast hs).symm⟩
  have goal1 : ∀ (b : Bool), (b = true ↔ ¬ (tr.stk.getLast?).map (·.1) = some kind) -> Calls Tryz.prog 108 #[.pointer (some ⟨gq, 0, none⟩), .bool b, .int .i64 99] w3 fun e w' => e = .returned (.tuple #[]) /\ OpOut w3 w' B gq rq C (Dr.wrong (¬ (tr.stk.getLast?).map (·.1) = some kind) 99 G1, tr) := fun b hb => by
    have := dwrong_any w3 B gq rq C G1 tr b 99 S3
    rw [REST.out b hb] at this
    exact this
  have HG1 := hid goal1
  clear goal1 REST
  generalize Dr.wrong (¬ (tr.stk.getLast?).map (·.1) = some kind) 99 G1 = G2 at *
  rcases hcase with hs | ⟨l, a, hla⟩
  · have W0 := hid (HG1.out true (by simp [hs]))
    have hl0 : tr.stk.length = 0 := by rw [hs]; rfl
    rw [hl0] at r0
    clear HG1 X3 S3 hs hl0
    go_wp2_with fail
    refine W0.out.mono ?_
    rintro e w4 ⟨rfl, o4⟩
    clear W0 r0
    have L4 := L3.trans o4.2
    go_wp2_with fail
    refine (dwrong_any w4 B gq rq C G2 tr _ 8 o4.1).mono ?_
    rintro e w5 ⟨rfl, o5⟩
    rw [wrong_dec] at o5
    have L5 := L4.trans o5.2
    have h5 : (Dr.wrong (0 <= FI) 8 G2).holds.length <= 900000 := by rw [wrong_holds]; exact hw2
    generalize Dr.wrong (0 <= FI) 8 G2 = G3 at *
    have TT := hid (dtake_any w5 B gq rq C G3 tr kind o5.1 (by omega))
    have h6 := take_holds kind G3 tr
    generalize Dr.take kind G3 tr = u at *
    obtain ⟨un, ug, ur⟩ := u
    simp only at *
    clear o4 o5 L3 L4
    go_wp2_with fail
    refine TT.out.mono ?_
    rintro e w6 ⟨rfl, o6⟩
    have L6 := L5.trans o6.2
    obtain ⟨hv6, sv6, pv6, kv6, X6⟩ := o6.1
    obtain ⟨ao6, cap6, hvs6⟩ := owns_shape X6.ho
    subst hvs6
    have c6 := X6.c6
    have c2 := X6.c2
    by_cases he : ug.err = 0
    · rw [if_pos he] at HD
      rw [he] at c6
      have hgl : ug.holds.length <= 900000 := by rw [h6]; exact h5
      have CW := hid (without_any ug.holds _ (-1) w6 (owns_hs X6.ho) (by omega))
      have ew : Dr.without ug.holds (-1) = ug.holds := by unfold Dr.without; rw [if_pos (by omega)]
      rw [ew] at CW
      have HX := hid fun (W : World) (hb : Below w6.heap.size w6 W) (v8 : Value) (ho : W.ownsRow w6.heap.size 145 3 v8 (ug.holds.length + 1) (hc ug.holds ++ [.int .i64 tn, .int .i64 kind, .int .i64 un])) => show (W.cell? ⟨gq, 2, none⟩ = some (.slice ao6 ug.holds.length cap6) /\ W.frozen? ⟨gq, 2, none⟩ = false) /\ OpOut w (W.setCell ⟨gq, 2, none⟩ v8) B gq rq C ({ ug with holds := ug.holds ++ [⟨tn, kind, un⟩] }, ur) from
        ⟨⟨(X6.below hb).c2, (X6.below hb).gz 2⟩, ⟨_, _, _, _, X6.setHolds (l := ug.holds ++ [⟨tn, kind, un⟩]) hb (by rw [hc_snoc, List.length_append]; exact ho)⟩, L6.trans (lo_holds X6 hb v8)⟩
      clear X6 o6 L5 L6 TT ew h6
      generalize hc ug.holds = XS at *
      generalize ug.holds.length = NN at *
      go_wp2_with fail
      refine CW.out.mono ?_
      rintro e w7 ⟨v7, rfl, ho7, hb7⟩
      obtain ⟨ao7, cap7, rfl⟩ := owns_shape ho7
      have oA := ho7.alloc (.cells #[.int .i64 tn, .int .i64 kind, .int .i64 un] 145)
      have bA := hb7.alloc hb7.size (.cells #[.int .i64 tn, .int .i64 kind, .int .i64 un] 145)
      have hlo : ∀ q, (Value.slice ao7 NN cap7).ownBlock = some q -> w6.heap.size <= q := fun q hq => (ho7.lt q hq).1
      have hz7 := hb7.size
      clear CW ho7 hb7
      go_wp2_with (at_builtin; refine wpList_append_keep rfl _ _ 109 rfl w6.heap.size 145 j0 (.agg #[.int .i64 0, .int .i64 0, .int .i64 0]) 3 24 Tryz.underlying109 hj0 hy0 hy1 hy2 rfl (by decide) _ _ _ rfl oA ⟨w7.heap.size, 0, none⟩ 1 1 [.int .i64 tn, .int .i64 kind, .int .i64 un] rfl rfl (cell_three _ _ _ _ _) ?t2 ?t3 ?t4 ?t5 (by decide) ?_)
      case t2 => intro x hx; simp at hx; rcases hx with rfl | rfl | rfl <;> rfl
      case t3 => unfold maxLen; omega
      case t4 => omega
      case t5 => simp only [World.size_alloc]; omega
      intro v8 w8 hv8 hg8 _ _
      obtain ⟨ao8, cap8, rfl⟩ := owns_shape hv8
      have b8 := bA.grown hg8 (by simp only [World.size_alloc]; omega) (fun q hq => hlo q hq)
      obtain ⟨⟨y2, yz⟩, F8⟩ := HX.out w8 b8 _ hv8
      have FF := hid F8
      clear hv8 hg8 oA bA hlo HX b8 F8 c2 c6
      go_wp2
      go_end0
      rw [HD.out]
      exact ⟨rfl, FF.out⟩
    · rw [if_neg he] at HD
      have n3 : (ug.err == 0) = false := by simpa using he
      have FF := hid (show OpOut w w6 B gq rq C (ug, ur) from ⟨o6.1, L6⟩)
      clear X6 o6 L5 L6 TT
      go_wp2
      go_end0
      rw [HD.out]
      exact ⟨rfl, FF.out⟩
  · have hlen : tr.stk.length = l.length + 1 := by rw [hla]; simp
    have hso := X3.so
    have hav : ∃ gs, av = some ⟨gs, 0, none⟩ := by
      rcases hso.2 with ⟨_, hn⟩ | ⟨g', cap', cur, hh, _⟩
      · omega
      · simp only [Value.slice.injEq, true_and] at hh
        exact ⟨g', hh.1⟩
    obtain ⟨gs, rfl⟩ := hav
    rw [hla] at hso
    rw [show (l ++ [a]).length = l.length + 1 from by simp] at hso
    obtain ⟨k1, k2, k3, _⟩ := top_cells hso rfl
    rw [hlen] at r0
    have hN : l.length <= 1000 := by omega
    have WT := hid fun hne => HG1.out true (by rw [hla, last_snoc]; simpa using hne)
    have WF := hid fun he => HG1.out false (by rw [hla, last_snoc]; simpa using he)
    obtain ⟨a1, a2⟩ := a
    simp only at *
    clear HG1 X3 S3 hso hla k2
    generalize l.length = N at *
    have w1' : wrap64 ((N : Int) + 1 - 1) = N := by unfold wrap64; omega
    by_cases hk : a1 = kind
    · have W0 := hid (WF.out hk)
      subst hk
      clear WT WF
      go_wp2_with fail
      refine W0.out.mono ?_
      rintro e w4 ⟨rfl, o4⟩
      clear W0 r0 k1
      have L4 := L3.trans o4.2
      go_wp2_with fail
      refine (dwrong_any w4 B gq rq C G2 tr _ 8 o4.1).mono ?_
      rintro e w5 ⟨rfl, o5⟩
      rw [wrong_dec] at o5
      have L5 := L4.trans o5.2
      have h5 : (Dr.wrong (0 <= FI) 8 G2).holds.length <= 900000 := by rw [wrong_holds]; exact hw2
      generalize Dr.wrong (0 <= FI) 8 G2 = G3 at *
      have TT := hid (dtake_any w5 B gq rq C G3 tr a1 o5.1 (by omega))
      have h6 := take_holds a1 G3 tr
      generalize Dr.take a1 G3 tr = u at *
      obtain ⟨un, ug, ur⟩ := u
      simp only at *
      clear o4 o5 L3 L4
      go_wp2_with fail
      refine TT.out.mono ?_
      rintro e w6 ⟨rfl, o6⟩
      have L6 := L5.trans o6.2
      obtain ⟨hv6, sv6, pv6, kv6, X6⟩ := o6.1
      obtain ⟨ao6, cap6, hvs6⟩ := owns_shape X6.ho
      subst hvs6
      have c6 := X6.c6
      have c2 := X6.c2
      by_cases he : ug.err = 0
      · rw [if_pos he] at HD
        rw [he] at c6
        have hgl : ug.holds.length <= 900000 := by rw [h6]; exact h5
        have CW := hid (without_any ug.holds _ (-1) w6 (owns_hs X6.ho) (by omega))
        have ew : Dr.without ug.holds (-1) = ug.holds := by unfold Dr.without; rw [if_pos (by omega)]
        rw [ew] at CW
        have HX := hid fun (W : World) (hb : Below w6.heap.size w6 W) (v8 : Value) (ho : W.ownsRow w6.heap.size 145 3 v8 (ug.holds.length + 1) (hc ug.holds ++ [.int .i64 tn, .int .i64 a1, .int .i64 un])) => show (W.cell? ⟨gq, 2, none⟩ = some (.slice ao6 ug.holds.length cap6) /\ W.frozen? ⟨gq, 2, none⟩ = false) /\ OpOut w (W.setCell ⟨gq, 2, none⟩ v8) B gq rq C ({ ug with holds := ug.holds ++ [⟨tn, a1, un⟩] }, ur) from
          ⟨⟨(X6.below hb).c2, (X6.below hb).gz 2⟩, ⟨_, _, _, _, X6.setHolds (l := ug.holds ++ [⟨tn, a1, un⟩]) hb (by rw [hc_snoc, List.length_append]; exact ho)⟩, L6.trans (lo_holds X6 hb v8)⟩
        clear X6 o6 L5 L6 TT ew h6
        generalize hc ug.holds = XS at *
        generalize ug.holds.length = NN at *
        go_wp2_with fail
        refine CW.out.mono ?_
        rintro e w7 ⟨v7, rfl, ho7, hb7⟩
        obtain ⟨ao7, cap7, rfl⟩ := owns_shape ho7
        have oA := ho7.alloc (.cells #[.int .i64 tn, .int .i64 a1, .int .i64 un] 145)
        have bA := hb7.alloc hb7.size (.cells #[.int .i64 tn, .int .i64 a1, .int .i64 un] 145)
        have hlo : ∀ q, (Value.slice ao7 NN cap7).ownBlock = some q -> w6.heap.size <= q := fun q hq => (ho7.lt q hq).1
        have hz7 := hb7.size
        clear CW ho7 hb7
        go_wp2_with (at_builtin; refine wpList_append_keep rfl _ _ 109 rfl w6.heap.size 145 j0 (.agg #[.int .i64 0, .int .i64 0, .int .i64 0]) 3 24 Tryz.underlying109 hj0 hy0 hy1 hy2 rfl (by decide) _ _ _ rfl oA ⟨w7.heap.size, 0, none⟩ 1 1 [.int .i64 tn, .int .i64 a1, .int .i64 un] rfl rfl (cell_three _ _ _ _ _) ?t2 ?t3 ?t4 ?t5 (by decide) ?_)
        case t2 => intro x hx; simp at hx; rcases hx with rfl | rfl | rfl <;> rfl
        case t3 => unfold maxLen; omega
        case t4 => omega
        case t5 => simp only [World.size_alloc]; omega
        intro v8 w8 hv8 hg8 _ _
        obtain ⟨ao8, cap8, rfl⟩ := owns_shape hv8
        have b8 := bA.grown hg8 (by simp only [World.size_alloc]; omega) (fun q hq => hlo q hq)
        obtain ⟨⟨y2, yz⟩, F8⟩ := HX.out w8 b8 _ hv8
        have FF := hid F8
        clear hv8 hg8 oA bA hlo HX b8 F8 c2 c6
        go_wp2
        go_end0
        rw [HD.out]
        exact ⟨rfl, FF.out⟩
      · rw [if_neg he] at HD
        have n3 : (ug.err == 0) = false := by simpa using he
        have FF := hid (show OpOut w w6 B gq rq C (ug, ur) from ⟨o6.1, L6⟩)
        clear X6 o6 L5 L6 TT
        go_wp2
        go_end0
        rw [HD.out]
        exact ⟨rfl, FF.out⟩
    · have W0 := hid (WT.out hk)
      have n1 : (a1 == kind) = false := by simpa using hk
      have n2 : (a1 != kind) = true := by simpa using hk
      clear WT WF
      go_wp2_with fail
      refine W0.out.mono ?_
      rintro e w4 ⟨rfl, o4⟩
      clear W0 r0 k1 n1 n2 hk
      have L4 := L3.trans o4.2
      go_wp2_with fail
      refine (dwrong_any w4 B gq rq C G2 tr _ 8 o4.1).mono ?_
      rintro e w5 ⟨rfl, o5⟩
      rw [wrong_dec] at o5
      have L5 := L4.trans o5.2
      have h5 : (Dr.wrong (0 <= FI) 8 G2).holds.length <= 900000 := by rw [wrong_holds]; exact hw2
      generalize Dr.wrong (0 <= FI) 8 G2 = G3 at *
      have TT := hid (dtake_any w5 B gq rq C G3 tr kind o5.1 (by omega))
      have h6 := take_holds kind G3 tr
      generalize Dr.take kind G3 tr = u at *
      obtain ⟨un, ug, ur⟩ := u
      simp only at *
      clear o4 o5 L3 L4
      go_wp2_with fail
      refine TT.out.mono ?_
      rintro e w6 ⟨rfl, o6⟩
      have L6 := L5.trans o6.2
      obtain ⟨hv6, sv6, pv6, kv6, X6⟩ := o6.1
      obtain ⟨ao6, cap6, hvs6⟩ := owns_shape X6.ho
      subst hvs6
      have c6 := X6.c6
      have c2 := X6.c2
      by_cases he : ug.err = 0
      · rw [if_pos he] at HD
        rw [he] at c6
        have hgl : ug.holds.length <= 900000 := by rw [h6]; exact h5
        have CW := hid (without_any ug.holds _ (-1) w6 (owns_hs X6.ho) (by omega))
        have ew : Dr.without ug.holds (-1) = ug.holds := by unfold Dr.without; rw [if_pos (by omega)]
        rw [ew] at CW
        have HX := hid fun (W : World) (hb : Below w6.heap.size w6 W) (v8 : Value) (ho : W.ownsRow w6.heap.size 145 3 v8 (ug.holds.length + 1) (hc ug.holds ++ [.int .i64 tn, .int .i64 kind, .int .i64 un])) => show (W.cell? ⟨gq, 2, none⟩ = some (.slice ao6 ug.holds.length cap6) /\ W.frozen? ⟨gq, 2, none⟩ = false) /\ OpOut w (W.setCell ⟨gq, 2, none⟩ v8) B gq rq C ({ ug with holds := ug.holds ++ [⟨tn, kind, un⟩] }, ur) from
          ⟨⟨(X6.below hb).c2, (X6.below hb).gz 2⟩, ⟨_, _, _, _, X6.setHolds (l := ug.holds ++ [⟨tn, kind, un⟩]) hb (by rw [hc_snoc, List.length_append]; exact ho)⟩, L6.trans (lo_holds X6 hb v8)⟩
        clear X6 o6 L5 L6 TT ew h6
        generalize hc ug.holds = XS at *
        generalize ug.holds.length = NN at *
        go_wp2_with fail
        refine CW.out.mono ?_
        rintro e w7 ⟨v7, rfl, ho7, hb7⟩
        obtain ⟨ao7, cap7, rfl⟩ := owns_shape ho7
        have oA := ho7.alloc (.cells #[.int .i64 tn, .int .i64 kind, .int .i64 un] 145)
        have bA := hb7.alloc hb7.size (.cells #[.int .i64 tn, .int .i64 kind, .int .i64 un] 145)
        have hlo : ∀ q, (Value.slice ao7 NN cap7).ownBlock = some q -> w6.heap.size <= q := fun q hq => (ho7.lt q hq).1
        have hz7 := hb7.size
        clear CW ho7 hb7
        go_wp2_with (at_builtin; refine wpList_append_keep rfl _ _ 109 rfl w6.heap.size 145 j0 (.agg #[.int .i64 0, .int .i64 0, .int .i64 0]) 3 24 Tryz.underlying109 hj0 hy0 hy1 hy2 rfl (by decide) _ _ _ rfl oA ⟨w7.heap.size, 0, none⟩ 1 1 [.int .i64 tn, .int .i64 kind, .int .i64 un] rfl rfl (cell_three _ _ _ _ _) ?t2 ?t3 ?t4 ?t5 (by decide) ?_)
        case t2 => intro x hx; simp at hx; rcases hx with rfl | rfl | rfl <;> rfl
        case t3 => unfold maxLen; omega
        case t4 => omega
        case t5 => simp only [World.size_alloc]; omega
        intro v8 w8 hv8 hg8 _ _
        obtain ⟨ao8, cap8, rfl⟩ := owns_shape hv8
        have b8 := bA.grown hg8 (by simp only [World.size_alloc]; omega) (fun q hq => hlo q hq)
        obtain ⟨⟨y2, yz⟩, F8⟩ := HX.out w8 b8 _ hv8
        have FF := hid F8
        clear hv8 hg8 oA bA hlo HX b8 F8 c2 c6
        go_wp2
        go_end0
        rw [HD.out]
        exact ⟨rfl, FF.out⟩
      · rw [if_neg he] at HD
        have n3 : (ug.err == 0) = false := by simpa using he
        have FF := hid (show OpOut w w6 B gq rq C (ug, ur) from ⟨o6.1, L6⟩)
        clear X6 o6 L5 L6 TT
        go_wp2
        go_end0
        rw [HD.out]
        exact ⟨rfl, FF.out⟩
end Dw
end Go.Proofs.YtjamgmbdilkbcaaGreat
