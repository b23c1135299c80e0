/- The document's Encode. -/
import Derived.Test.YtjamgmbdilkbcaaEnc3
import Derived.Deep.RegionWith
namespace Go.Proofs.Ytjamgmbdilkbcaa
open Go.RowKit

/-- a byte's list as a string, wherever it lies. -/
theorem conv_one (c : UInt8) (W : World) (g : Nat) (h : W.cell? ⟨g, 0, none⟩ = some (.int .u8 (c.toNat : Int))) : (convert 122 9 (.slice (some ⟨g, 0, none⟩) 1 1)).run Try.prog W = .ok (.string ⟨#[c]⟩) W := by
  refine run_convert_bytes_back W 122 9 5 ⟨g, 0, none⟩ 1 [c] Try.underlying122 Try.underlying5 Try.underlying9 (fun j hj => ?_)
  have : j = 0 := by simpa using hj
  subst this
  simpa [Addr.add] using h

/-- a region that ends well, and in which state. -/
def CutP (R : Act → World → Prop) : Exit → Act → World → Prop
  | .normal, a, w => R a w
  | _, _, _ => False
theorem region_cut {P : Program} {c : Code} {Q : Exit → Act → World → Prop} {a : Act} {w : World} (R : Act → World → Prop) (h1 : c.wp P (CutP R) a w) (h2 : ∀ a' w', R a' w' → Q .normal a' w') : c.wp P Q a w :=
  Code.wp_mono (fun e a' w' h => by cases e <;> first | exact h2 a' w' h | exact (h : False).elim) h1

theorem smallF_len {f : Pu.Fn} (h : Pu.smallF f = true) : (Pu.wFn f).length ≤ 1300 := by
  simp only [Pu.smallF, Pu.smallL, Bool.and_eq_true, decide_eq_true_eq] at h
  rw [wFn_len]
  omega
theorem wFns_len_gen (l : List Pu.Fn) (h : ∀ f ∈ l, (Pu.wFn f).length ≤ 1300) : (Pu.wFns l).length ≤ l.length * 1300 := by
  induction l with
  | nil => simp [Pu.wFns]
  | cons a l ih =>
    have h1 := h a (by simp)
    have h2 := ih (fun f hf => h f (by simp [hf]))
    simp [Pu.wFns] at h2 ⊢
    omega
/-- what is written when k functions are. -/
def wPart (m : Pu.Md) (k : Nat) : List UInt8 := 67 :: 70 :: (Pu.wList m.kinds ++ (Pu.byte m.funcs.length :: Pu.wFns (m.funcs.take k)))
theorem wPart_all (m : Pu.Md) : wPart m m.funcs.length = Pu.wMd m := by unfold wPart; rw [List.take_of_length_le (Nat.le_refl _)]; rfl
theorem wPart_zero (m : Pu.Md) : (⟨#[67, 70]⟩ ++ ⟨(Pu.wList m.kinds).toArray⟩ ++ ⟨#[Pu.byte m.funcs.length]⟩ : ByteArray) = ⟨(wPart m 0).toArray⟩ := by
  apply ByteArray.ext
  apply Array.ext'
  simp [ByteArray.data_append, wPart, Pu.wFns]
theorem wPart_succ (m : Pu.Md) (k : Nat) (h : k < m.funcs.length) : (⟨(wPart m k).toArray⟩ ++ ⟨(Pu.wFn (m.funcs.getD k ⟨[], [], [], []⟩)).toArray⟩ : ByteArray) = ⟨(wPart m (k + 1)).toArray⟩ := by
  rw [Go.ByteArray.mk_append_mk]
  unfold wPart
  rw [wFns_take m.funcs k h ⟨[], [], [], []⟩]
  simp
theorem wPart_len (m : Pu.Md) (k : Nat) (h : (m.funcs.take k).all Pu.smallF = true) (hk : m.kinds.length ≤ 1000000) (hn : m.funcs.length ≤ 255) : (wPart m k).length ≤ 2000000 := by
  have h1 := wFns_len_gen (m.funcs.take k) (fun f hf => smallF_len (List.all_eq_true.1 h f hf))
  rw [List.length_take] at h1
  unfold wPart
  simp only [List.length_cons, List.length_append, wList_len]
  omega

theorem drew_base {w w' : World} (h : Below w.drew.heap.size w.drew w') : Below w.heap.size w w' := ⟨h.os, h.tape, h.output, h.size, h.block⟩

set_option maxRecDepth 100000 in
set_option maxHeartbeats 4000000 in
theorem rencode_any (m : Pu.Md) (kv vv : Value) (w : World) (hm : MdR w w.heap.size kv vv m) (hN : ∀ f ∈ m.funcs, f.code.length ≤ 1048576) :
    Calls Try.prog 41 #[.agg #[kv, vv]] w fun e w' => e = .returned (.tuple #[.string ⟨(Pu.renc m).1.toArray⟩, .int .i64 (Pu.renc m).2]) ∧ Below w.heap.size w w' := by
  obtain ⟨a1, c1, rfl⟩ := hm.k.shape
  obtain ⟨a2, c2, rfl⟩ := hm.v.shape
  have hk0 : F2 (w.alloc (.cells #[.slice a1 m.kinds.length c1, .slice a2 m.funcs.length c2] 33)) w.heap.size 33 (.slice a1 m.kinds.length c1) (.slice a2 m.funcs.length c2) := heap_alloc_new w _
  have hb0 := (Below.refl w.heap.size w).alloc (Nat.le_refl _) (.cells #[.slice a1 m.kinds.length c1, .slice a2 m.funcs.length c2] 33)
  have hm0 := (hm.below hb0).wide (B' := (w.alloc (.cells #[.slice a1 m.kinds.length c1, .slice a2 m.funcs.length c2] 33)).heap.size) (by simp)
  clear hm
  have hnf := hm0.nf
  unfold maxLen at hnf
  go_enter Try.func41, Try.ntmps41
  go_wp2_with fail
  refine (small_any m.kinds _ _ _ hm0.k hm0.nk).mono ?_
  rintro e w1 ⟨rfl, hw1⟩
  generalize hW0 : (w.alloc (.cells #[.slice a1 m.kinds.length c1, .slice a2 m.funcs.length c2] 33)) = W0 at *
  have hw1 := hw1.symm
  subst hw1
  have HW0 : Hid _ := hW0
  clear hW0
  have d1 := hk0.c1
  by_cases hsm : Pu.smallL m.kinds = true ∧ m.funcs.length ≤ 255
  · obtain ⟨s1, s2⟩ := hsm
    rw [s1]
    have d0 := hk0.c0
    have hz := hk0.lt
    have n1 : m.kinds.length ≤ 1000000 := by simp only [Pu.smallL, Bool.and_eq_true, decide_eq_true_eq] at s1; omega
    have t1 : (9223372036854775807 < 2 + (Pu.wList m.kinds).length) = False := by rw [wList_len]; simp; omega
    have t2 : (9223372036854775807 < 2 + (Pu.wList m.kinds).length + 1) = False := by rw [wList_len]; simp; omega
    obtain ⟨c, hc⟩ : ∃ c, c = Pu.byte m.funcs.length := ⟨_, rfl⟩
    have hcv : ∀ (W : World) (g : Nat), W.cell? ⟨g, 0, none⟩ = some (.int .u8 (m.funcs.length : Int)) → (convert 122 9 (.slice (some ⟨g, 0, none⟩) 1 1)).run Try.prog W = .ok (.string ⟨#[c]⟩) W := fun W g h => conv_one c W g (by rw [h, hc, byte_val]; congr 2; omega)
    have hwrap : IntKind.u8.wrap (m.funcs.length : Int) = (m.funcs.length : Int) := by simp [IntKind.wrap, IntKind.bits, IntKind.signed]; omega
    have HC : Hid _ := hc
    have hmw : IntsR W0 W0.heap.size (.slice a1 m.kinds.length c1) m.kinds := hm0.k
    have bA := (Below.refl W0.heap.size W0).alloc (Nat.le_refl _) (.cells #[.int .u8 (m.funcs.length : Int)] 5)
    have HW : Hid (IntsR W0.drew W0.drew.heap.size (.slice a1 m.kinds.length c1) m.kinds) := hmw.heap rfl
    have HA : Hid (IntsR (W0.alloc (.cells #[.int .u8 (m.funcs.length : Int)] 5)).drew (W0.alloc (.cells #[.int .u8 (m.funcs.length : Int)] 5)).drew.heap.size (.slice a1 m.kinds.length c1) m.kinds) := (ints_now hmw bA).heap rfl
    have d1d : W0.drew.cell? ⟨w.heap.size, 1, none⟩ = some (.slice a2 m.funcs.length c2) := d1
    have d1a : (W0.alloc (.cells #[.int .u8 (m.funcs.length : Int)] 5)).drew.cell? ⟨w.heap.size, 1, none⟩ = some (.slice a2 m.funcs.length c2) := (bA.cell (p := ⟨w.heap.size, 1, none⟩) hz).trans d1
    have dn : (W0.alloc (.cells #[.int .u8 (m.funcs.length : Int)] 5)).drew.cell? ⟨W0.heap.size, 0, none⟩ = some (.int .u8 (m.funcs.length : Int)) := by
      have := heap_alloc_new W0 (.cells #[.int .u8 (m.funcs.length : Int)] 5)
      show (W0.alloc (.cells #[.int .u8 (m.funcs.length : Int)] 5)).cell? _ = _
      unfold World.cell?
      rw [this]
      rfl
    have hzd : w.heap.size < W0.drew.heap.size := hz
    have hza : w.heap.size < (W0.alloc (.cells #[.int .u8 (m.funcs.length : Int)] 5)).drew.heap.size := by show w.heap.size < (W0.alloc (.cells #[.int .u8 (m.funcs.length : Int)] 5)).heap.size; simp; omega
    have hzn : W0.heap.size < (W0.alloc (.cells #[.int .u8 (m.funcs.length : Int)] 5)).drew.heap.size := by show W0.heap.size < (W0.alloc (.cells #[.int .u8 (m.funcs.length : Int)] 5)).heap.size; simp
    have BAD : Hid (Below W0.heap.size W0 (W0.alloc (.cells #[.int .u8 (m.funcs.length : Int)] 5)).drew) := bA.drew
    clear bA
    have HM0 : Hid _ := hm0
    have HN : Hid _ := hN
    have HS1 : Hid _ := s1
    clear hmw hc s1 hm0 hN
    go_wp2_with fail
    refine region_cut (fun a' w' => Below W0.heap.size W0 w' ∧ ∃ u21 u22 u23 u24 u25 u26 u27 u28 u29 u30 u31 : Value, a' = ⟨#[.agg #[.slice a1 m.kinds.length c1, .slice a2 m.funcs.length c2], .pointer (some ⟨w.heap.size, 0, none⟩), .string ⟨#[]⟩, .int .i64 0, .bool true, .string (⟨#[67, 70]⟩ ++ ⟨(Pu.wList m.kinds).toArray⟩ ++ ⟨#[c]⟩), undef, undef, undef, undef, .pointer (some ⟨w.heap.size, 0, none⟩), .slice a1 m.kinds.length c1, .bool true, .bool true, .bool false, .bool false, .pointer (some ⟨w.heap.size, 1, none⟩), .slice a2 m.funcs.length c2, .int .i64 (m.funcs.length : Int), .bool (decide (255 < (m.funcs.length : Int))), .bool (decide (255 < (m.funcs.length : Int))), u21, u22, u23, u24, u25, u26, u27, u28, u29, u30, u31, undef, undef, undef, undef, undef, undef, undef, undef, undef, undef, undef, undef, undef, undef, undef, undef, undef, undef, undef, undef, undef, undef, undef, undef, undef, undef, undef, undef, undef, undef, undef, undef, undef, undef, undef], []⟩) ?reg ?rest
    case reg =>
      go_region_with (go_at_call 73; (refine (put_any m.kinds (.slice a1 m.kinds.length c1) _ ?_ n1).mono ?_; (first | with_reducible exact HW.out | with_reducible exact HA.out); rintro e w3 ⟨rfl, hb3⟩; have e1 : w3.cell? ⟨w.heap.size, 1, none⟩ = some (.slice a2 m.funcs.length c2) := (hb3.cell (p := ⟨w.heap.size, 1, none⟩) (by first | exact hzd | exact hza)).trans (by first | exact d1d | exact d1a); try (have hq : w3.cell? ⟨W0.heap.size, 0, none⟩ = some (.int .u8 (m.funcs.length : Int)) := (hb3.cell (p := ⟨W0.heap.size, 0, none⟩) (by first | exact hzn)).trans dn)))
      all_goals show _ ∧ _
      all_goals simp only [Act.put, List.setIfInBounds_toArray]
      all_goals refine ⟨?_, _, _, _, _, _, _, _, _, _, _, _, rfl⟩
      all_goals first | exact drew_base hb3 | exact keep_below BAD.out hb3 | exact (drew_base hb3).alloc (drew_base hb3).size _
    case rest =>
      rintro a' w' ⟨hb1, u21, u22, u23, u24, u25, u26, u27, u28, u29, u30, u31, rfl⟩
      clear hcv hwrap t1 t2 d1d d1a dn hzd hza hzn HA BAD HW d0 d1
      obtain ⟨s0, hs0⟩ : ∃ s0 : ByteArray, s0 = ⟨#[67, 70]⟩ ++ ⟨(Pu.wList m.kinds).toArray⟩ ++ ⟨#[c]⟩ := ⟨_, rfl⟩
      rw [← hs0]
      have hs1 : s0 = ⟨(wPart m 0).toArray⟩ := by rw [hs0, HC.out, wPart_zero]
      have HS0 : Hid _ := hs1
      clear hs0 hs1 HC
      have hbw := hb0.trans (hb1.mono hb0.size)
      obtain ⟨ao, cap, b, off, hv, h1, h2⟩ := HM0.out.v
      simp only [Value.slice.injEq, true_and] at hv
      obtain ⟨rfl, rfl⟩ := hv
      have H1 : Hid _ := h1
      have H2 : Hid _ := h2
      clear h1 h2
      go_wp2
      go_loopw [5, 6] (fun sv i wr => ∃ (k : Nat) (st : ByteArray), k ≤ m.funcs.length ∧ i = .int .i64 k ∧ sv = .string st ∧ st = ⟨(wPart m k).toArray⟩ ∧ (m.funcs.take k).all Pu.smallF = true ∧ Below W0.heap.size W0 wr) (fun _ i _ => m.funcs.length - (intOf i).toNat)
      case atStart => exact ⟨0, s0, Nat.zero_le _, rfl, rfl, HS0.out, by simp, hb1⟩
      case round =>
        obtain ⟨k, st, hk, rfl, rfl, hst, hall, hb⟩ := hrel
        have hstl : st.size ≤ 2000000 := by rw [hst]; exact wPart_len m k hall n1 s2
        have HST : Hid _ := hst
        have HALL : Hid _ := hall
        have d1 := (hb.cell (p := ⟨w.heap.size, 1, none⟩) hz).trans hk0.c1
        have hbz := hb.size
        clear hst hall hb1 hbw
        by_cases hlt : k < m.funcs.length
        · obtain ⟨rfl, hbB⟩ := H1.out (by omega)
          obtain ⟨x, g0, g1, g2, g3, hx⟩ := H2.out k hlt
          obtain ⟨x1, y1, x2, y2, x3, y3, x4, y4, rfl⟩ := hx.shape
          have k0 := (hb.cell (p := ⟨b, off + k * 4, none⟩) hbB).trans g0
          have k1 := (hb.cell (p := ⟨b, off + k * 4 + 1, none⟩) hbB).trans g1
          have k2 := (hb.cell (p := ⟨b, off + k * 4 + 2, none⟩) hbB).trans g2
          have k3 := (hb.cell (p := ⟨b, off + k * 4 + 3, none⟩) hbB).trans g3
          have hf : FnR wr wr.heap.size _ _ := (hx.below hb).wide hbz
          have hmem : m.funcs.getD k ⟨[], [], [], []⟩ ∈ m.funcs := by rw [List.getD_eq_getElem?_getD, List.getElem?_eq_getElem hlt]; exact List.getElem_mem hlt
          have hcl := HN.out _ hmem
          have HT : Hid _ := wPart_succ m k hlt
          have HTK : Hid _ := take_all_snoc m.funcs Pu.smallF k ⟨[], [], [], []⟩ hlt
          have HMEM : Hid _ := hmem
          clear g0 g1 g2 g3 hx hmem
          generalize m.funcs.getD k ⟨[], [], [], []⟩ = f at *
          simp only at *
          have q2 : b < wr.heap.size := by omega
          have q0 : w.heap.size < wr.heap.size := by omega
          go_wp2_with fail
          refine (rfn_any f ⟨.slice x1 f.params.length y1, .slice x2 f.results.length y2, .slice x3 f.locals.length y3, .slice x4 f.code.length y4⟩ _ hf hcl).mono ?_
          rintro e w3 ⟨rfl, hb3⟩
          have hb4 : Below W0.heap.size W0 w3 := hb.trans (hb3.mono hbz)
          clear hb hb3 d1 k0 k1 k2 k3 hf
          cases hsf : Pu.smallF f with
          | false =>
            have HE : Hid (Pu.renc m = ([], 2)) := by
              show _ = _
              unfold Pu.renc
              rw [if_neg]
              intro h
              simp only [Pu.smallM, Bool.and_eq_true, decide_eq_true_eq, List.all_eq_true] at h
              rw [h.2 f HMEM.out] at hsf
              simp at hsf
            have hbf := hb0.trans (hb4.mono hb0.size)
            clear hsf hb4
            go_wp2
            go_ret2
            rw [HE.out]
            exact ⟨rfl, hbf⟩
          | true =>
            have hrs := rfnStr_yes hsf
            have hrl : (rfnStr f).size ≤ 1300 := by rw [hrs]; exact smallF_len hsf
            have HRS : Hid _ := hrs
            have HSF : Hid _ := hsf
            clear hrs hsf
            generalize rfnStr f = tt at *
            have t3 : (9223372036854775807 < st.size + tt.size) = False := by simp; omega
            go_wp2
            go_roundw
            case rel => exact ⟨k + 1, _, hlt, by go_num, rfl, by rw [HST.out, HRS.out]; exact HT.out, by rw [HTK.out, HALL.out, HSF.out]; rfl, hb4⟩
            case measure => simp [intOf]; omega
        · have hkn : k = m.funcs.length := by omega
          subst hkn
          have hwm : st = ⟨(Pu.wMd m).toArray⟩ := by rw [HST.out, wPart_all]
          have hsm : Pu.smallM m = true := by
            have h1 := HALL.out
            rw [List.take_of_length_le (Nat.le_refl _)] at h1
            simp only [Pu.smallM, Bool.and_eq_true, decide_eq_true_eq]
            exact ⟨⟨HS1.out, s2⟩, h1⟩
          have HRE : Hid (Pu.renc m = if (Pu.atEnd st (Pu.module st).2).2 = true then ([], 2) else if 1500 < st.size then ([], 1) else (Pu.wMd m, 0)) := by
            show _ = _
            have hsz : st.size = (Pu.wMd m).length := by rw [hwm]; rfl
            unfold Pu.renc Pu.wholeBad
            rw [if_pos hsm, hsz, ← hwm]
          have HWM : Hid _ := hwm
          have ct0 : Ct (wr.alloc (.cells #[.string st, .int .i64 0, .int .i64 (-1)] 126)) wr.heap.size st 0 (bd (0, false)) := by
            have := heap_alloc_new wr (.cells #[.string st, .int .i64 0, .int .i64 (-1)] 126)
            simpa [Ct, bd] using this
          have hb4 := (hb0.trans (hb.mono hb0.size)).alloc (Nat.le_trans hb0.size hbz) (.cells #[.string st, .int .i64 0, .int .i64 (-1)] 126)
          clear hwm hsm HST HALL HN hb
          go_wp2_with fail
          refine (whole_any _ st _ ct0 (by unfold maxLen; omega)).mono ?_
          rintro e w5 ⟨rfl, ct5, hg5⟩
          have hwz : w.heap.size ≤ wr.heap.size := by omega
          have hb5 := hb4.grown hg5 (by simp only [World.size_alloc]; omega) (by intro k hk; simp at hk; omega)
          clear ct0 hb4 hg5
          generalize Pu.atEnd st (Pu.module st).2 = sf at *
          have c2' := ct5.c2
          clear ct5
          cases hbad : sf.2 with
          | true =>
            have hbn : ¬ bd sf < 0 := fun h0 => by have := bd_neg.1 h0; rw [hbad] at this; simp at this
            have HE : Hid (Pu.renc m = ([], 2)) := by show _ = _; rw [HRE.out, if_pos hbad]
            clear hbad HRE
            generalize bd sf = bb at *
            have hbn2 : 0 ≤ bb := by omega
            go_wp2
            go_ret2
            rw [HE.out]
            exact ⟨rfl, hb5⟩
          | false =>
            have hbn := bd_neg.2 hbad
            have HE : Hid (Pu.renc m = if 1500 < st.size then ([], 1) else (Pu.wMd m, 0)) := by show _ = _; rw [HRE.out, if_neg (by rw [hbad]; simp)]
            clear hbad HRE
            generalize bd sf = bb at *
            by_cases hl : 1500 < st.size
            · go_wp2
              go_ret2
              rw [HE.out, if_pos hl]
              exact ⟨rfl, hb5⟩
            · go_wp2
              go_ret2
              rw [HE.out, if_neg hl, HWM.out]
              exact ⟨rfl, hb5⟩
  · have HS : Hid (Pu.renc m = ([], 2)) := by
      show _ = _
      unfold Pu.renc
      rw [if_neg]
      intro h
      simp only [Pu.smallM, Bool.and_eq_true, decide_eq_true_eq] at h
      exact hsm h.1
    clear hm0
    have HSM : Hid _ := hsm
    clear hsm
    cases s1 : Pu.smallL m.kinds with
    | false =>
      clear s1
      go_wp2
      go_ret2
      rw [HS.out]
      exact ⟨rfl, hb0⟩
    | true =>
      have hl4 : 255 < m.funcs.length := by
        apply Nat.lt_of_not_le
        intro hl
        exact HSM.out ⟨s1, hl⟩
      clear s1
      go_wp2
      go_ret2
      rw [HS.out]
      exact ⟨rfl, hb0⟩
end Go.Proofs.Ytjamgmbdilkbcaa
