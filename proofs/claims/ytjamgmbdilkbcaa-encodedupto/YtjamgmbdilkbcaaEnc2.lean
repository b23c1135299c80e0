/- The document's Encode: function. -/
import Derived.Test.YtjamgmbdilkbcaaEnc1
namespace Go.Proofs.Ytjamgmbdilkbcaa
open Go.RowKit

theorem flat_take (l : List (Int × Int)) (k : Nat) (hlt : k < l.length) : Pu.flat (l.take (k + 1)) = Pu.flat (l.take k) ++ [(l.getD k (0, 0)).1, (l.getD k (0, 0)).2] := by
  have e : l.getD k (0, 0) = l[k] := by simp [List.getD_eq_getElem?_getD, hlt]
  rw [e, List.take_succ_eq_append_getElem hlt]
  simp only [Pu.flat, List.flatMap_append, List.flatMap_cons, List.flatMap_nil, List.append_nil]

def iv (l : List Int) : List Value := l.map (Value.int .i64)
theorem iv_snoc (l : List Int) (x : Int) : iv (l ++ [x]) = iv l ++ [.int .i64 x] := by simp [iv]

theorem ints_now {w w' : World} {v : Value} {l : List Int} (h : IntsR w w.heap.size v l) (hb : Below w.heap.size w w') : IntsR w' w'.heap.size v l := (h.below hb).wide hb.size
theorem keep_below {w wp w3 : World} (hb : Below w.heap.size w wp) (h3 : Below wp.heap.size wp w3) : Below w.heap.size w w3 := hb.trans (h3.mono hb.size)

/-- what the three writings in one expression lean on. -/
def K3 (w w' : World) (q : Nat) (x0 x1 x2 : Value) : Prop := w'.cell? ⟨q, 0, none⟩ = some x0 ∧ w'.cell? ⟨q, 1, none⟩ = some x1 ∧ w'.cell? ⟨q, 2, none⟩ = some x2 ∧ Below w.heap.size w w'
theorem k3_of {w w' : World} {q : Nat} {t : TypeId} {x0 x1 x2 x3 : Value} (h : F4 w q t x0 x1 x2 x3) (hb : Below w.heap.size w w') : w'.cell? ⟨q, 0, none⟩ = some x0 ∧ w'.cell? ⟨q, 1, none⟩ = some x1 ∧ w'.cell? ⟨q, 2, none⟩ = some x2 ∧ Below w.heap.size w w' :=
  ⟨(hb.cell (p := ⟨q, 0, none⟩) h.lt).trans h.c0, (hb.cell (p := ⟨q, 1, none⟩) h.lt).trans h.c1, (hb.cell (p := ⟨q, 2, none⟩) h.lt).trans h.c2, hb⟩

theorem str_join (a b c : List UInt8) (x y : UInt8) (l : List UInt8) {n : Nat} (hn : n = l.length + 1) :
    (ByteArray.mk a.toArray ++ ByteArray.mk b.toArray ++ ByteArray.mk c.toArray ++ ByteArray.mk #[x] ++ (ByteArray.mk (y :: l).toArray).extract 1 n) = ByteArray.mk (a ++ (b ++ (c ++ (x :: l)))).toArray := by
  subst hn
  apply ByteArray.ext
  apply Array.ext'
  simp [ByteArray.data_append, ByteArray.data_extract]

/-- the bytes of a function, if it has any. -/
def rfnStr (f : Pu.Fn) : ByteArray := if Pu.smallF f = true then ⟨(Pu.wFn f).toArray⟩ else ⟨#[]⟩
theorem rfnStr_no {f : Pu.Fn} (h : Pu.smallF f = false) : rfnStr f = ⟨#[]⟩ := by simp [rfnStr, h]
theorem rfnStr_yes {f : Pu.Fn} (h : Pu.smallF f = true) : rfnStr f = ⟨(Pu.wFn f).toArray⟩ := by simp [rfnStr, h]

theorem rfn_str {f : Pu.Fn} {Z T : ByteArray} (h : Pu.smallF f = true) (hZ : Z = ⟨(Pu.wList f.params).toArray⟩ ++ ⟨(Pu.wList f.results).toArray⟩ ++ ⟨(Pu.wList f.locals).toArray⟩) (hT : T = ⟨(Pu.wList (Pu.flat f.code)).toArray⟩) :
    rfnStr f = Z ++ ⟨#[Pu.byte f.code.length]⟩ ++ T.extract 1 T.size := by
  have hn : T.size = ((Pu.flat f.code).map Pu.byte).length + 1 := by rw [hT]; simp [ByteArray.size, wList_len]
  have key := str_join (Pu.wList f.params) (Pu.wList f.results) (Pu.wList f.locals) (Pu.byte f.code.length) (Pu.byte (Pu.flat f.code).length) ((Pu.flat f.code).map Pu.byte) hn
  have e : Pu.wList (Pu.flat f.code) = Pu.byte (Pu.flat f.code).length :: (Pu.flat f.code).map Pu.byte := rfl
  rw [rfnStr_yes h, Pu.wFn, Pu.wCode_flat, ← key, ← hZ, ← e, ← hT]

set_option maxRecDepth 100000 in
set_option maxHeartbeats 2000000 in
theorem rfn_any (f : Pu.Fn) (x : FV) (w : World) (h : FnR w w.heap.size x f) (hN : f.code.length ≤ 1048576) :
    Calls Try.prog 74 #[.agg #[x.p, x.r, x.l, x.c]] w fun e w' => e = .returned (.tuple #[.string (rfnStr f), .bool (Pu.smallF f)]) ∧ Below w.heap.size w w' := by
  obtain ⟨i0, hi0, hz0, hz1, hz2⟩ := info_parts Try.info3
  obtain ⟨x1, y1, x2, y2, x3, y3, x4, y4, rfl⟩ := h.shape
  have hb0 := (Below.refl w.heap.size w).alloc (Nat.le_refl _) (.cells #[.slice x1 f.params.length y1, .slice x2 f.results.length y2, .slice x3 f.locals.length y3, .slice x4 f.code.length y4] 86)
  have bx0 : F4 (w.alloc (.cells #[.slice x1 f.params.length y1, .slice x2 f.results.length y2, .slice x3 f.locals.length y3, .slice x4 f.code.length y4] 86)) w.heap.size 86 (.slice x1 f.params.length y1) (.slice x2 f.results.length y2) (.slice x3 f.locals.length y3) (.slice x4 f.code.length y4) := heap_alloc_new w _
  have hc := h.c
  obtain ⟨ao, cap, b, off, hv, h1, h2⟩ := hc
  simp only [Value.slice.injEq, true_and] at hv
  obtain ⟨rfl, rfl⟩ := hv
  have H1 : Hid _ := h1
  have H2 : Hid _ := h2
  have HF : Hid _ := h
  clear h1 h2 h
  simp only
  go_enter Try.func74, Try.ntmps74
  go_wp2
  go_loopw [4, 5] (fun g i wr => ∃ k : Nat, k ≤ f.code.length ∧ i = .int .i64 k ∧ wr.ownsRow (w.heap.size + 1) 3 1 g (2 * k) (iv (Pu.flat (f.code.take k))) ∧ Below w.heap.size w wr ∧ F4 wr w.heap.size 86 (.slice x1 f.params.length y1) (.slice x2 f.results.length y2) (.slice x3 f.locals.length y3) (.slice x4 f.code.length y4)) (fun _ i _ => f.code.length - (intOf i).toNat)
  case atStart => exact ⟨0, Nat.zero_le _, rfl, World.ownsRow_nil _ _ _ _, hb0, bx0⟩
  case round =>
    obtain ⟨k, hk, rfl, ho, hb, bx⟩ := hrel
    clear hb0 bx0
    obtain ⟨ag, cg, rfl⟩ := owns_shape ho
    have d3 := bx.c3
    have hz := bx.lt
    by_cases hlt : k < f.code.length
    · obtain ⟨rfl, hbB⟩ := H1.out (by omega)
      have k0 := (hb.cell (p := ⟨b, off + k * 2, none⟩) hbB).trans (H2.out k hlt).1
      have k1 := (hb.cell (p := ⟨b, off + k * 2 + 1, none⟩) hbB).trans (H2.out k hlt).2
      have HT : Hid _ := flat_take f.code k hlt
      generalize f.code.getD k (0, 0) = u at *
      obtain ⟨u0, u1⟩ := u
      simp only at *
      have oa := ho.alloc (.cells #[.int .i64 u0] 3)
      go_wp2_with (at_builtin; refine wpList_append_own _ rfl _ _ 30 rfl (w.heap.size + 1) 3 i0 (.int .i64 0) 1 8 Try.underlying30 hi0 hz0 hz1 hz2 rfl (by decide) _ _ _ rfl oa ⟨wr.heap.size, 0, none⟩ 1 1 [.int .i64 u0] rfl rfl (cell_one_new _ _ _) ?c2 ?c3 ?c4 ?c5 ?_)
      case c2 => first | rfl | (intro u hu; simp at hu; subst hu; rfl)
      case c3 => unfold maxLen; omega
      case c4 => omega
      case c5 => first | omega | (simp only [World.size_alloc]; omega)
      intro v' w1 hown1 hgrow _
      have hne : ∀ j, (Value.slice ag (2 * k) cg).ownBlock = some j → w.heap.size + 1 ≤ j := fun j hj => (ho.lt j hj).1
      have hb1 : Below w.heap.size w w1 := (hb.alloc (by omega) _).grown hgrow (by simp only [World.size_alloc]; omega) (fun k hk => by have := hne k hk; omega)
      have bx1 := (bx.kept (World.grownBy_alloc wr (.cells #[.int .i64 u0] 3) none) (by simp)).kept hgrow (fun e => by have := hne _ e.symm; omega)
      have k01 := (hb1.cell (p := ⟨b, off + k * 2, none⟩) hbB).trans ((hb.cell (p := ⟨b, off + k * 2, none⟩) hbB).symm.trans k0)
      have k11 := (hb1.cell (p := ⟨b, off + k * 2 + 1, none⟩) hbB).trans ((hb.cell (p := ⟨b, off + k * 2 + 1, none⟩) hbB).symm.trans k1)
      clear hgrow ho hb bx d3 k0 k1 hne oa hz
      obtain ⟨ag1, cg1, rfl⟩ := owns_shape hown1
      have d3 := bx1.c3
      have hz := bx1.lt
      have oa := hown1.alloc (.cells #[.int .i64 u1] 3)
      go_wp2_with (at_builtin; refine wpList_append_own _ rfl _ _ 30 rfl (w.heap.size + 1) 3 i0 (.int .i64 0) 1 8 Try.underlying30 hi0 hz0 hz1 hz2 rfl (by decide) _ _ _ rfl oa ⟨w1.heap.size, 0, none⟩ 1 1 [.int .i64 u1] rfl rfl (cell_one_new _ _ _) ?e2 ?e3 ?e4 ?e5 ?_)
      case e2 => first | rfl | (intro u hu; simp at hu; subst hu; rfl)
      case e3 => unfold maxLen; omega
      case e4 => omega
      case e5 => first | omega | (simp only [World.size_alloc]; omega)
      intro v' w2 hown2 hgrow _
      have hne : ∀ j, (Value.slice ag1 (2 * k + 1) cg1).ownBlock = some j → w.heap.size + 1 ≤ j := fun j hj => (hown1.lt j hj).1
      have hb2 : Below w.heap.size w w2 := (hb1.alloc (by omega) _).grown hgrow (by simp only [World.size_alloc]; omega) (fun k hk => by have := hne k hk; omega)
      have bx2 := (bx1.kept (World.grownBy_alloc w1 (.cells #[.int .i64 u1] 3) none) (by simp)).kept hgrow (fun e => by have := hne _ e.symm; omega)
      have o3 : w2.ownsRow (w.heap.size + 1) 3 1 v' (2 * (k + 1)) (iv (Pu.flat (f.code.take (k + 1)))) := by
        rw [HT.out, show [u0, u1] = [u0] ++ [u1] from rfl, ← List.append_assoc, iv_snoc, iv_snoc, show 2 * (k + 1) = 2 * k + 1 + 1 from by omega, List.append_assoc]
        exact hown2
      clear hgrow hb1 bx1 d3 k01 k11 hne oa hz hown1 hown2
      obtain ⟨ag2, cg2, rfl⟩ := owns_shape o3
      go_wp2
      go_roundw
      case rel => exact ⟨k + 1, hlt, by go_num, o3, hb2, bx2⟩
      case measure => simp [intOf]; omega
    · have hk2 : k = f.code.length := by omega
      subst hk2
      rw [List.take_of_length_le (Nat.le_refl _)] at ho
      have e0 := bx.c0
      have e1 := bx.c1
      have e2 := bx.c2
      have hfr := (HF.out.below hb)
      have hci : IntsR wr wr.heap.size (.slice ag (2 * f.code.length) cg) (Pu.flat f.code) := owns_ints (by rw [Pu.flat_len]; exact ho)
      clear ho
      go_wp2_with fail
      refine (small_any f.params _ _ _ hfr.p hfr.np).mono ?_
      rintro e w1 ⟨rfl, hw1⟩
      have hw1 := hw1.symm
      subst hw1
      go_wp2_with fail
      refine (small_any f.results _ _ _ hfr.r hfr.nr).mono ?_
      rintro e w1 ⟨rfl, hw1⟩
      have hw1 := hw1.symm
      subst hw1
      go_wp2_with fail
      refine (small_any f.locals _ _ _ hfr.l hfr.nl).mono ?_
      rintro e w1 ⟨rfl, hw1⟩
      have hw1 := hw1.symm
      subst hw1
      by_cases hsm : Pu.smallL f.params = true ∧ Pu.smallL f.results = true ∧ Pu.smallL f.locals = true ∧ f.code.length ≤ 255
      · obtain ⟨s1, s2, s3, s4⟩ := hsm
        rw [s1, s2, s3]
        have HS : Hid (Pu.smallF f = (Pu.flat f.code).all Pu.isB) := by
          show _ = _
          rw [Pu.smallF, s1, s2, s3, show decide (f.code.length ≤ 255) = true from by simpa using s4]
          simp
        have hfl : (Pu.flat f.code).length = 2 * f.code.length := Pu.flat_len _
        have hci2 := hci
        obtain ⟨ac, cpc, b2, off2, hv, h1, h2⟩ := hci
        rw [hfl] at hv h1 h2
        simp only [Value.slice.injEq, true_and] at hv
        obtain ⟨rfl, rfl⟩ := hv
        have HC : Hid _ := hci2
        have G1 : Hid _ := h1
        have G2 : Hid _ := h2
        have HFL : Hid _ := hfl
        clear hci2 h1 h2 hfl
        go_wp2
        go_loop [9] (fun i => ∃ k : Nat, k ≤ 2 * f.code.length ∧ i = .int .i64 k ∧ ((Pu.flat f.code).take k).all Pu.isB = true) (fun i => 2 * f.code.length - (intOf i).toNat)
        case atStart => exact ⟨0, Nat.zero_le _, rfl, by simp⟩
        case round =>
          obtain ⟨k, hk, rfl, ha⟩ := hrel
          by_cases hlt2 : k < 2 * f.code.length
          · obtain ⟨rfl, hbB⟩ := G1.out (by omega)
            have hc := G2.out k hlt2
            have HT : Hid _ := take_all_snoc (Pu.flat f.code) Pu.isB k 0 (by rw [HFL.out]; exact hlt2)
            have HF2 : Hid _ := all_false_of (Pu.flat f.code) Pu.isB k 0 (by rw [HFL.out]; exact hlt2)
            have HA : Hid _ := ha
            clear ha
            generalize (Pu.flat f.code).getD k 0 = x at *
            by_cases hx0 : x < 0
            · have HE : Hid (Pu.smallF f = false) := by show _ = _; rw [HS.out, HF2.out (by simp [Pu.isB]; omega)]
              go_wp2
              go_ret2
              rw [rfnStr_no HE.out, HE.out]
              exact ⟨rfl, hb⟩
            · by_cases hx1 : 255 < x
              · have HE : Hid (Pu.smallF f = false) := by show _ = _; rw [HS.out, HF2.out (by simp [Pu.isB]; omega)]
                go_wp2
                go_ret2
                rw [rfnStr_no HE.out, HE.out]
                exact ⟨rfl, hb⟩
              · go_wp2
                go_round
                case rel => exact ⟨k + 1, hlt2, by go_num, by rw [HT.out, HA.out]; simp [Pu.isB]; omega⟩
                case measure => simp [intOf]; omega
          · have HE : Hid (Pu.smallF f = true) := by
              show _ = _
              rw [HS.out, ← ha, List.take_of_length_le (by rw [HFL.out]; omega)]
            clear ha
            have hfw : FnR wr wr.heap.size ⟨.slice x1 f.params.length y1, .slice x2 f.results.length y2, .slice x3 f.locals.length y3, .slice x4 f.code.length y4⟩ f := hfr.wide hb.size
            have n1 : f.params.length ≤ 1000000 := by simp only [Pu.smallL, Bool.and_eq_true, decide_eq_true_eq] at s1; omega
            have n2 : f.results.length ≤ 1000000 := by simp only [Pu.smallL, Bool.and_eq_true, decide_eq_true_eq] at s2; omega
            have n3 : f.locals.length ≤ 1000000 := by simp only [Pu.smallL, Bool.and_eq_true, decide_eq_true_eq] at s3; omega
            have HW : Hid _ := hfw
            have HK : Hid _ := fun w' (h : Below wr.heap.size wr w') => k3_of bx h
            have HB0 : Hid (Below wr.heap.size wr wr.drew) := (Below.refl _ _).drew
            have t1 : (9223372036854775807 < (Pu.wList f.params).length + (Pu.wList f.results).length) = False := by rw [wList_len, wList_len]; simp; omega
            have t2 : (9223372036854775807 < (Pu.wList f.params).length + (Pu.wList f.results).length + (Pu.wList f.locals).length) = False := by rw [wList_len, wList_len, wList_len]; simp; omega
            clear hfr hfw s1 s2 s3 HS
            go_wp2_with fail
            go_region_held3 (fun w' => w'.cell? ⟨w.heap.size, 0, none⟩ = some (.slice x1 f.params.length y1) ∧ w'.cell? ⟨w.heap.size, 1, none⟩ = some (.slice x2 f.results.length y2) ∧ w'.cell? ⟨w.heap.size, 2, none⟩ = some (.slice x3 f.locals.length y3) ∧ Below wr.heap.size wr w')
              (first | exact HK.out _ HB0.out | (go_split_ands; exact HK.out _ (keep_below (by assumption) hb3)))
              (first | (go_at_call 73; with_reducible show Calls _ _ #[Value.slice x1 f.params.length y1] _ _; go_split_ands; refine (put_any f.params (.slice x1 f.params.length y1) _ (ints_now HW.out.p (by assumption)) n1).mono ?_; rintro e w3 ⟨rfl, hb3⟩) | (go_at_call 73; with_reducible show Calls _ _ #[Value.slice x2 f.results.length y2] _ _; go_split_ands; refine (put_any f.results (.slice x2 f.results.length y2) _ (ints_now HW.out.r (by assumption)) n2).mono ?_; rintro e w3 ⟨rfl, hb3⟩) | (go_at_call 73; with_reducible show Calls _ _ #[Value.slice x3 f.locals.length y3] _ _; go_split_ands; refine (put_any f.locals (.slice x3 f.locals.length y3) _ (ints_now HW.out.l (by assumption)) n3).mono ?_; rintro e w3 ⟨rfl, hb3⟩))
            have hb5 : Below wr.heap.size wr w3 := by go_split_ands; assumption
            have bx5 : F4 w3 w.heap.size 86 (.slice x1 f.params.length y1) (.slice x2 f.results.length y2) (.slice x3 f.locals.length y3) (.slice x4 f.code.length y4) := (hb5.block w.heap.size hz).trans bx
            clear hb3
            go_wp2_with fail
            refine (put_any (Pu.flat f.code) _ w3 (ints_now HC.out hb5) (by rw [HFL.out]; omega)).mono ?_
            rintro e w6 ⟨rfl, hb6⟩
            have bx6 : F4 w6 w.heap.size 86 (.slice x1 f.params.length y1) (.slice x2 f.results.length y2) (.slice x3 f.locals.length y3) (.slice x4 f.code.length y4) := (hb6.block w.heap.size bx5.lt).trans bx5
            have hb7 := keep_below hb5 hb6
            clear hb5 hb6 bx5
            have d6 := bx6.c3
            have hs6 := bx6.lt
            have hcv : (convert 122 9 (.slice (some ⟨w6.heap.size, 0, none⟩) 1 1)).run Try.prog (w6.alloc (.cells #[.int .u8 (IntKind.u8.wrap (f.code.length : Int))] 5)).drew = .ok (.string ⟨#[Pu.byte f.code.length]⟩) (w6.alloc (.cells #[.int .u8 (IntKind.u8.wrap (f.code.length : Int))] 5)).drew := by
              have h1 : (w6.alloc (.cells #[.int .u8 (IntKind.u8.wrap (f.code.length : Int))] 5)).drew.ownsRow w6.heap.size 5 1 (.slice (some ⟨w6.heap.size, 0, none⟩) 1 1) 1 [.int .u8 (IntKind.u8.wrap (f.code.length : Int))] := owns_new w6 _ 5
              have h2 : IntKind.u8.wrap (f.code.length : Int) = ((Pu.byte f.code.length).toNat : Int) := by rw [byte_val]; simp [IntKind.wrap, IntKind.bits, IntKind.signed]
              rw [h2] at h1 ⊢
              exact wr_string (l := [Pu.byte f.code.length]) h1
            have hcv2 : (convert 122 9 (.slice (some ⟨w6.heap.size, 0, none⟩) 1 1)).run Try.prog (w6.alloc (.cells #[.int .u8 (f.code.length : Int)] 5)).drew = .ok (.string ⟨#[Pu.byte f.code.length]⟩) (w6.alloc (.cells #[.int .u8 (f.code.length : Int)] 5)).drew := by
              have h2 : IntKind.u8.wrap (f.code.length : Int) = (f.code.length : Int) := by simp [IntKind.wrap, IntKind.bits, IntKind.signed]; omega
              rw [h2] at hcv
              exact hcv
            have hT : (Pu.wList (Pu.flat f.code)).length = 2 * f.code.length + 1 := by rw [wList_len, HFL.out]
            obtain ⟨T, hTe⟩ : ∃ T : ByteArray, T = ⟨(Pu.wList (Pu.flat f.code)).toArray⟩ := ⟨_, rfl⟩
            obtain ⟨Z, hZe⟩ : ∃ Z : ByteArray, Z = ⟨(Pu.wList f.params).toArray⟩ ++ ⟨(Pu.wList f.results).toArray⟩ ++ ⟨(Pu.wList f.locals).toArray⟩ := ⟨_, rfl⟩
            have hTs : T.size = 2 * f.code.length + 1 := by rw [hTe]; exact hT
            have i1 : (1 : Int) ≤ (T.size : Int) := by omega
            have hZs : Z.size ≤ 3000003 := by rw [hZe]; simp [ByteArray.size_mk', wList_len]; omega
            rw [← hTe, ← hZe]
            have HTS : Hid _ := hTs
            have tz : T.size ≤ 600 := by omega
            have t3 : (9223372036854775807 < Z.size + 1) = False := by simp; omega
            have t4 : (9223372036854775807 < Z.size + 1 + (T.size - 1)) = False := by simp; omega
            clear hTs
            have HTE : Hid _ := hTe
            have HZE : Hid _ := hZe
            clear hTe hZe hT t1 t2
            go_wp2_with fail
            go_region
            all_goals go_wp2
            clear hcv hcv2 d6 t3 t4 i1 tz hZs
            have hstr : rfnStr f = Z ++ ⟨#[Pu.byte f.code.length]⟩ ++ T.extract 1 T.size := rfn_str HE.out HZE.out HTE.out
            have HSTR : Hid _ := hstr
            have hbf : Below w.heap.size w (w6.alloc (.cells #[.int .u8 (f.code.length : Int)] 5)).drew := ((hb.trans (hb7.mono hb.size)).alloc (Nat.le_trans hb.size hb7.size) _).drew
            clear hstr
            go_ret2
            rw [HSTR.out, HE.out]
            exact ⟨rfl, hbf⟩
      · have HS : Hid (Pu.smallF f = false) := by
          show _ = _
          cases hx : Pu.smallF f with
          | false => rfl
          | true =>
            simp only [Pu.smallF, Bool.and_eq_true, decide_eq_true_eq] at hx
            exact absurd ⟨hx.1.1.1.1, hx.1.1.1.2, hx.1.1.2, hx.1.2⟩ hsm
        clear hci hfr
        have HSM : Hid _ := hsm
        clear hsm
        cases s1 : Pu.smallL f.params with
        | false =>
          clear s1
          go_wp2
          go_ret2
          rw [rfnStr_no HS.out, HS.out]
          exact ⟨rfl, hb⟩
        | true =>
          cases s2 : Pu.smallL f.results with
          | false =>
            clear s1 s2
            go_wp2
            go_ret2
            rw [rfnStr_no HS.out, HS.out]
            exact ⟨rfl, hb⟩
          | true =>
            cases s3 : Pu.smallL f.locals with
            | false =>
              clear s1 s2 s3
              go_wp2
              go_ret2
              rw [rfnStr_no HS.out, HS.out]
              exact ⟨rfl, hb⟩
            | true =>
              have hl4 : 255 < f.code.length := by
                apply Nat.lt_of_not_le
                intro hl
                exact HSM.out ⟨s1, s2, s3, hl⟩
              clear s1 s2 s3
              go_wp2
              go_ret2
              rw [rfnStr_no HS.out, HS.out]
              exact ⟨rfl, hb⟩
end Go.Proofs.Ytjamgmbdilkbcaa
