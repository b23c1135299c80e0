import Derived.Test.YtjamgmbdilkbcaaGreatLotLedgers24
/- A frame's do. -/
namespace Go.Proofs.YtjamgmbdilkbcaaGreat
open Go.RowKit Mc

set_option maxRecDepth 100000 in
set_option maxHeartbeats 1000000 in
theorem mdo1 (r d : Nat) (op arg : Int) (mk mv : Value) (M : Mc) (w : World) (h : MR w r mk mv M) (hd : d < 8) (hop : op = 1) :
    Calls Tryz.prog 132 #[.pointer (some ⟨r, fr d, none⟩), .agg #[.int .i64 op, .int .i64 arg]] w fun e w' => MDone w w' r mk mv (M.do_ d op arg) e := by
  have al := grown_below ((Below.refl w.heap.size w).alloc (Nat.le_refl _) (.cells #[.int .i64 op, .int .i64 arg] 56)) (some r)
  have h0 := h.kept (grown_below ((Below.refl w.heap.size w).alloc (Nat.le_refl _) (.cells #[.int .i64 op, .int .i64 arg] 56)) none) (by simp)
  have hrw := h.lt
  obtain ⟨ML, hML⟩ : ∃ ML, ML = M.do_ d op arg := ⟨_, rfl⟩
  rw [<- hML]
  unfold Mc.do_ at hML
  clear h
  subst hop
  simp only [if_true] at hML
  have C := hid (mput_any r d arg mk mv M _ h0 hd)
  obtain ⟨o, ho⟩ : ∃ o, o = fr d := ⟨_, rfl⟩
  have HO := hid ho
  rw [<- hML, <- ho] at C
  rw [<- ho]
  clear h0 hML ho
  go_enter Tryz.func132, Tryz.ntmps132
  go_wp2_with fail
  refine C.out.mono ?_
  rintro e w1 ⟨rfl, h1, g1⟩
  have FIN : Hid (MDone w w1 r mk mv ML (.returned (.tuple #[]))) := ⟨rfl, h1, grown_trans al g1⟩
  clear C h1 g1 al
  go_wp2
  go_end0
  exact FIN.out
set_option maxRecDepth 100000 in
set_option maxHeartbeats 1000000 in
theorem mdo6 (r d : Nat) (op arg : Int) (mk mv : Value) (M : Mc) (w : World) (h : MR w r mk mv M) (hd : d < 8) (hop : op = 6) :
    Calls Tryz.prog 132 #[.pointer (some ⟨r, fr d, none⟩), .agg #[.int .i64 op, .int .i64 arg]] w fun e w' => MDone w w' r mk mv (M.do_ d op arg) e := by
  have al := grown_below ((Below.refl w.heap.size w).alloc (Nat.le_refl _) (.cells #[.int .i64 op, .int .i64 arg] 56)) (some r)
  have h0 := h.kept (grown_below ((Below.refl w.heap.size w).alloc (Nat.le_refl _) (.cells #[.int .i64 op, .int .i64 arg] 56)) none) (by simp)
  have hrw := h.lt
  obtain ⟨ML, hML⟩ : ∃ ML, ML = M.do_ d op arg := ⟨_, rfl⟩
  rw [<- hML]
  unfold Mc.do_ at hML
  subst hop
  simp only [if_true, show ((6 : Int) = 1) = False from by simp, if_false] at hML
  have c1 := h0.ci (isI_fr (i := 1) hd (by omega) (by omega))
  have z1 := h0.fz (fr d + 1)
  have hs := h.setI (isI_fr (i := 1) hd (by omega) (by omega)) arg (fun d' hd' he => by unfold fr at he; omega)
  have bS := (Below.refl (w.setCell ⟨r, fr d + 1, none⟩ (.int .i64 arg)).heap.size (w.setCell ⟨r, fr d + 1, none⟩ (.int .i64 arg))).alloc (Nat.le_refl _) (.cells #[.int .i64 6, .int .i64 arg] 56)
  have h1 := hs.kept (grown_below bS none) (by simp)
  have g1 := grown_trans (grown_set w r (fr d + 1) (.int .i64 arg)) (grown_below bS (some r))
  rw [<- hML] at h1
  have FIN : Hid (MDone w _ r mk mv ML (.returned (.tuple #[]))) := ⟨rfl, h1, g1⟩
  obtain ⟨o, ho⟩ : ∃ o, o = fr d := ⟨_, rfl⟩
  have HO := hid ho
  rw [<- ho] at c1 z1 FIN ⊢
  clear h h0 h1 g1 al hML ho hs bS
  go_enter Tryz.func132, Tryz.ntmps132
  go_wp2
  go_end0
  exact FIN.out
set_option maxRecDepth 100000 in
set_option maxHeartbeats 1000000 in
theorem mdo7 (r d : Nat) (op arg : Int) (mk mv : Value) (M : Mc) (w : World) (h : MR w r mk mv M) (hd : d < 8) (hop : op = 7) :
    Calls Tryz.prog 132 #[.pointer (some ⟨r, fr d, none⟩), .agg #[.int .i64 op, .int .i64 arg]] w fun e w' => MDone w w' r mk mv (M.do_ d op arg) e := by
  have al := grown_below ((Below.refl w.heap.size w).alloc (Nat.le_refl _) (.cells #[.int .i64 op, .int .i64 arg] 56)) (some r)
  have h0 := h.kept (grown_below ((Below.refl w.heap.size w).alloc (Nat.le_refl _) (.cells #[.int .i64 op, .int .i64 arg] 56)) none) (by simp)
  have hrw := h.lt
  obtain ⟨ML, hML⟩ : ∃ ML, ML = M.do_ d op arg := ⟨_, rfl⟩
  rw [<- hML]
  unfold Mc.do_ at hML
  clear h
  subst hop
  simp only [if_true, show ((7 : Int) = 1) = False from by simp, show ((7 : Int) = 6) = False from by simp, if_false] at hML
  have C := hid (mtake_any r d mk mv M _ h0 hd)
  have HD := hid hd
  obtain ⟨o, ho⟩ : ∃ o, o = fr d := ⟨_, rfl⟩
  have HO := hid ho
  rw [<- ho] at C ⊢
  have HML := hid hML
  clear h0 hML ho hd
  go_enter Tryz.func132, Tryz.ntmps132
  go_wp2_with fail
  refine C.out.mono ?_
  rintro e w1 ⟨rfl, h1, g1⟩
  have hrl := grown_trans al g1
  have ci := (g1.block w.heap.size (by simp) (by simp; omega))
  have ib : F2 w1 w.heap.size 56 (.int .i64 7) (.int .i64 arg) := ci.trans (heap_alloc_new w _)
  have ia := ib.c1
  clear C al ci ib
  by_cases hz : M.top d = 0
  · rw [hz] at HML
    have HM2 := hid (HML.out.trans (if_neg (by simp)))
    have FIN : Hid (MDone w w1 r mk mv ML (.returned (.tuple #[]))) := ⟨rfl, by rw [HM2.out]; exact h1, hrl⟩
    rw [hz]
    clear HML HM2 h1 g1 hrl
    go_wp2
    go_end0
    exact FIN.out
  · have HM2 := hid (HML.out.trans (if_pos hz))
    have c1 := h1.ci (isI_fr (i := 1) HD.out (by omega) (by omega))
    have z1 := h1.fz (fr d + 1)
    have h2 := h1.setI (isI_fr (i := 1) HD.out (by omega) (by omega)) arg (fun d' hd' he => by unfold fr at he; omega)
    have FIN : Hid (MDone w _ r mk mv ML (.returned (.tuple #[]))) := ⟨rfl, by rw [HM2.out]; exact h2, grown_trans hrl (grown_set w1 r (fr d + 1) (.int .i64 arg))⟩
    rw [<- HO.out] at c1 z1 FIN
    have b1 : (M.top d == 0) = false := by simpa using hz
    have b2 : (M.top d != 0) = true := by simpa using hz
    clear HML HM2 h1 g1 hrl h2
    generalize M.top d = T at *
    go_wp2
    go_end0
    exact FIN.out
set_option maxRecDepth 100000 in
set_option maxHeartbeats 1000000 in
theorem mdo8 (r d : Nat) (op arg : Int) (mk mv : Value) (M : Mc) (w : World) (h : MR w r mk mv M) (hd : d < 8) (hop : op = 8) :
    Calls Tryz.prog 132 #[.pointer (some ⟨r, fr d, none⟩), .agg #[.int .i64 op, .int .i64 arg]] w fun e w' => MDone w w' r mk mv (M.do_ d op arg) e := by
  have al := grown_below ((Below.refl w.heap.size w).alloc (Nat.le_refl _) (.cells #[.int .i64 op, .int .i64 arg] 56)) (some r)
  have h0 := h.kept (grown_below ((Below.refl w.heap.size w).alloc (Nat.le_refl _) (.cells #[.int .i64 op, .int .i64 arg] 56)) none) (by simp)
  have hrw := h.lt
  obtain ⟨ML, hML⟩ : ∃ ML, ML = M.do_ d op arg := ⟨_, rfl⟩
  rw [<- hML]
  unfold Mc.do_ at hML
  clear h
  subst hop
  rw [if_neg (by decide), if_neg (by decide), if_neg (by decide), if_pos (by decide)] at hML
  have C := hid (mheld_any r d arg mk mv M _ h0 hd)
  have HD := hid hd
  obtain ⟨o, ho⟩ : ∃ o, o = fr d := ⟨_, rfl⟩
  have HO := hid ho
  rw [<- ho] at C ⊢
  have HML := hid hML
  clear h0 hML ho hd
  go_enter Tryz.func132, Tryz.ntmps132
  go_wp2_with fail
  refine C.out.mono ?_
  rintro e w1 ⟨rfl, h1, g1⟩
  have C2 := hid (mput_any r d (M.heldAt d arg) mk mv M _ h1 HD.out)
  rw [<- HML.out, <- HO.out] at C2
  have g01 := grown_trans al g1
  clear C h1 g1 al
  go_wp2_with fail
  refine C2.out.mono ?_
  rintro e w2 ⟨rfl, h2, g2⟩
  have FIN : Hid (MDone w w2 r mk mv ML (.returned (.tuple #[]))) := ⟨rfl, h2, grown_trans g01 g2⟩
  clear C2 h2 g2 g01
  go_wp2
  go_end0
  exact FIN.out
set_option maxRecDepth 100000 in
set_option maxHeartbeats 1000000 in
theorem mdo9 (r d : Nat) (op arg : Int) (mk mv : Value) (M : Mc) (w : World) (h : MR w r mk mv M) (hd : d < 8) (hop : op = 9) :
    Calls Tryz.prog 132 #[.pointer (some ⟨r, fr d, none⟩), .agg #[.int .i64 op, .int .i64 arg]] w fun e w' => MDone w w' r mk mv (M.do_ d op arg) e := by
  have al := grown_below ((Below.refl w.heap.size w).alloc (Nat.le_refl _) (.cells #[.int .i64 op, .int .i64 arg] 56)) (some r)
  have h0 := h.kept (grown_below ((Below.refl w.heap.size w).alloc (Nat.le_refl _) (.cells #[.int .i64 op, .int .i64 arg] 56)) none) (by simp)
  have hrw := h.lt
  obtain ⟨ML, hML⟩ : ∃ ML, ML = M.do_ d op arg := ⟨_, rfl⟩
  rw [<- hML]
  unfold Mc.do_ at hML
  clear h
  subst hop
  rw [if_neg (by decide), if_neg (by decide), if_neg (by decide), if_pos (by decide)] at hML
  have C := hid (mheld_any r d arg mk mv M _ h0 hd)
  have HD := hid hd
  obtain ⟨o, ho⟩ : ∃ o, o = fr d := ⟨_, rfl⟩
  have HO := hid ho
  rw [<- ho] at C ⊢
  have HML := hid hML
  clear h0 hML ho hd
  go_enter Tryz.func132, Tryz.ntmps132
  go_wp2_with fail
  refine C.out.mono ?_
  rintro e w1 ⟨rfl, h1, g1⟩
  have C2 := hid (mput_any r d (M.heldAt d arg) mk mv M _ h1 HD.out)
  rw [<- HML.out, <- HO.out] at C2
  have g01 := grown_trans al g1
  clear C h1 g1 al
  go_wp2_with fail
  refine C2.out.mono ?_
  rintro e w2 ⟨rfl, h2, g2⟩
  have FIN : Hid (MDone w w2 r mk mv ML (.returned (.tuple #[]))) := ⟨rfl, h2, grown_trans g01 g2⟩
  clear C2 h2 g2 g01
  go_wp2
  go_end0
  exact FIN.out
set_option maxRecDepth 100000 in
set_option maxHeartbeats 1000000 in
theorem mdo10 (r d : Nat) (op arg : Int) (mk mv : Value) (M : Mc) (w : World) (h : MR w r mk mv M) (hd : d < 8) (hop : op = 10) :
    Calls Tryz.prog 132 #[.pointer (some ⟨r, fr d, none⟩), .agg #[.int .i64 op, .int .i64 arg]] w fun e w' => MDone w w' r mk mv (M.do_ d op arg) e := by
  have al := grown_below ((Below.refl w.heap.size w).alloc (Nat.le_refl _) (.cells #[.int .i64 op, .int .i64 arg] 56)) (some r)
  have h0 := h.kept (grown_below ((Below.refl w.heap.size w).alloc (Nat.le_refl _) (.cells #[.int .i64 op, .int .i64 arg] 56)) none) (by simp)
  have hrw := h.lt
  obtain ⟨ML, hML⟩ : ∃ ML, ML = M.do_ d op arg := ⟨_, rfl⟩
  rw [<- hML]
  unfold Mc.do_ at hML
  clear h
  subst hop
  simp only [if_true, show ((10 : Int) = 1) = False from by simp, show ((10 : Int) = 6) = False from by simp, show ((10 : Int) = 7) = False from by simp, show ((10 : Int) = 8 \/ (10 : Int) = 9) = False from by simp, if_false] at hML
  have C := hid (mtake_any r d mk mv M _ h0 hd)
  have HD := hid hd
  obtain ⟨o, ho⟩ : ∃ o, o = fr d := ⟨_, rfl⟩
  have HO := hid ho
  rw [<- ho] at C ⊢
  have HML := hid hML
  clear h0 hML ho hd
  go_enter Tryz.func132, Tryz.ntmps132
  go_wp2_with fail
  refine C.out.mono ?_
  rintro e w1 ⟨rfl, h1, g1⟩
  have ci := (g1.block w.heap.size (by simp) (by simp; omega))
  have ib : F2 w1 w.heap.size 56 (.int .i64 10) (.int .i64 arg) := ci.trans (heap_alloc_new w _)
  have ia := ib.c1
  have C2 := hid (mkeep_any r d arg (M.top d) mk mv _ _ h1 HD.out)
  rw [<- HML.out, <- HO.out] at C2
  have g01 := grown_trans al g1
  clear C h1 g1 al ci ib
  go_wp2_with fail
  refine C2.out.mono ?_
  rintro e w2 ⟨rfl, h2, g2⟩
  have FIN : Hid (MDone w w2 r mk mv ML (.returned (.tuple #[]))) := ⟨rfl, h2, grown_trans g01 g2⟩
  clear C2 h2 g2 g01
  go_wp2
  go_end0
  exact FIN.out
set_option maxRecDepth 100000 in
set_option maxHeartbeats 1000000 in
theorem mdo11 (r d : Nat) (op arg : Int) (mk mv : Value) (M : Mc) (w : World) (h : MR w r mk mv M) (hd : d < 8) (hop : op = 11) :
    Calls Tryz.prog 132 #[.pointer (some ⟨r, fr d, none⟩), .agg #[.int .i64 op, .int .i64 arg]] w fun e w' => MDone w w' r mk mv (M.do_ d op arg) e := by
  have al := grown_below ((Below.refl w.heap.size w).alloc (Nat.le_refl _) (.cells #[.int .i64 op, .int .i64 arg] 56)) (some r)
  have h0 := h.kept (grown_below ((Below.refl w.heap.size w).alloc (Nat.le_refl _) (.cells #[.int .i64 op, .int .i64 arg] 56)) none) (by simp)
  have hrw := h.lt
  obtain ⟨ML, hML⟩ : ∃ ML, ML = M.do_ d op arg := ⟨_, rfl⟩
  rw [<- hML]
  unfold Mc.do_ at hML
  clear h
  subst hop
  simp only [if_true, show ((11 : Int) = 1) = False from by simp, show ((11 : Int) = 6) = False from by simp, show ((11 : Int) = 7) = False from by simp, show ((11 : Int) = 8 \/ (11 : Int) = 9) = False from by simp, show ((11 : Int) = 10) = False from by simp, if_false] at hML
  have C := hid (mtake_any r d mk mv M _ h0 hd)
  obtain ⟨o, ho⟩ : ∃ o, o = fr d := ⟨_, rfl⟩
  have HO := hid ho
  rw [<- ho] at C ⊢
  rw [<- hML] at C
  clear h0 hML ho hd
  go_enter Tryz.func132, Tryz.ntmps132
  go_wp2_with fail
  refine C.out.mono ?_
  rintro e w1 ⟨rfl, h1, g1⟩
  have FIN : Hid (MDone w w1 r mk mv ML (.returned (.tuple #[]))) := ⟨rfl, h1, grown_trans al g1⟩
  clear C h1 g1 al
  go_wp2
  go_end0
  exact FIN.out
set_option maxRecDepth 100000 in
set_option maxHeartbeats 1000000 in
theorem mdoN (r d : Nat) (op arg : Int) (mk mv : Value) (M : Mc) (w : World) (h : MR w r mk mv M) (_hd : d < 8) (hop : op ≠ 1 /\ op ≠ 6 /\ op ≠ 7 /\ op ≠ 8 /\ op ≠ 9 /\ op ≠ 10 /\ op ≠ 11) :
    Calls Tryz.prog 132 #[.pointer (some ⟨r, fr d, none⟩), .agg #[.int .i64 op, .int .i64 arg]] w fun e w' => MDone w w' r mk mv (M.do_ d op arg) e := by
  have al := grown_below ((Below.refl w.heap.size w).alloc (Nat.le_refl _) (.cells #[.int .i64 op, .int .i64 arg] 56)) (some r)
  have h0 := h.kept (grown_below ((Below.refl w.heap.size w).alloc (Nat.le_refl _) (.cells #[.int .i64 op, .int .i64 arg] 56)) none) (by simp)
  have hrw := h.lt
  obtain ⟨ML, hML⟩ : ∃ ML, ML = M.do_ d op arg := ⟨_, rfl⟩
  rw [<- hML]
  unfold Mc.do_ at hML
  clear h
  obtain ⟨n1, n6, n7, n8, n9, n10, n11⟩ := hop
  rw [if_neg n1, if_neg n6, if_neg n7, if_neg (by omega), if_neg n10, if_neg n11] at hML
  have FIN : Hid (MDone w _ r mk mv ML (.returned (.tuple #[]))) := ⟨rfl, by rw [hML]; exact h0, al⟩
  have b1 : (op == 1) = false := by simpa using n1
  have b6 : (op == 6) = false := by simpa using n6
  have b7 : (op == 7) = false := by simpa using n7
  have b8 : (op == 8) = false := by simpa using n8
  have b9 : (op == 9) = false := by simpa using n9
  have b10 : (op == 10) = false := by simpa using n10
  have b11 : (op == 11) = false := by simpa using n11
  obtain ⟨o, ho⟩ : ∃ o, o = fr d := ⟨_, rfl⟩
  have HO := hid ho
  rw [<- ho]
  clear h0 hML ho al n1 n6 n7 n8 n9 n10 n11
  go_enter Tryz.func132, Tryz.ntmps132
  go_wp2
  go_end0
  exact FIN.out
theorem mdo_any (r d : Nat) (op arg : Int) (mk mv : Value) (M : Mc) (w : World) (h : MR w r mk mv M) (hd : d < 8) :
    Calls Tryz.prog 132 #[.pointer (some ⟨r, fr d, none⟩), .agg #[.int .i64 op, .int .i64 arg]] w fun e w' => MDone w w' r mk mv (M.do_ d op arg) e := by
  by_cases h1 : op = 1
  · exact mdo1 r d op arg mk mv M w h hd h1
  by_cases h6 : op = 6
  · exact mdo6 r d op arg mk mv M w h hd h6
  by_cases h7 : op = 7
  · exact mdo7 r d op arg mk mv M w h hd h7
  by_cases h8 : op = 8
  · exact mdo8 r d op arg mk mv M w h hd h8
  by_cases h9 : op = 9
  · exact mdo9 r d op arg mk mv M w h hd h9
  by_cases h10 : op = 10
  · exact mdo10 r d op arg mk mv M w h hd h10
  by_cases h11 : op = 11
  · exact mdo11 r d op arg mk mv M w h hd h11
  exact mdoN r d op arg mk mv M w h hd ⟨h1, h6, h7, h8, h9, h10, h11⟩
end Go.Proofs.YtjamgmbdilkbcaaGreat
