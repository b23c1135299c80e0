import Derived.Test.YtjamgmbdilkbcaaLotChecked35
/- The document's Check; Checked. -/
namespace Go.Proofs.Ytjamgmbdilkbcaa
open Go.RowKit

theorem isMd_jump {m : Pu.Md} (h : Pu.isMd m = true) {f : Pu.Fn} (hf : f ∈ m.funcs) : 0 < f.code.length ∧ ∀ i, i < f.code.length → (f.code.getD i (0, 0)).1 = 6 ∨ (f.code.getD i (0, 0)).1 = 7 → (f.code.getD i (0, 0)).2.toNat < f.code.length := by
  simp only [Pu.isMd, Pu.isFn, Pu.isCode, Bool.and_eq_true, decide_eq_true_eq, List.all_eq_true] at h
  obtain ⟨_, _, _, h4⟩ := h
  obtain ⟨_, _, _, c1, _, c3⟩ := h4 f hf
  refine ⟨c1, fun i hi hop => ?_⟩
  have hx := c3 (f.code.getD i (0, 0)) (by rw [List.getD_eq_getElem?_getD, List.getElem?_eq_getElem hi]; exact List.getElem_mem hi)
  generalize f.code.getD i (0, 0) = x at *
  simp only [Pu.isInstr, Bool.and_eq_true, decide_eq_true_eq] at hx
  obtain ⟨_, x4⟩ := hx
  unfold Pu.argHi at x4
  rw [if_neg (by omega), if_pos hop] at x4
  omega

set_option maxRecDepth 100000 in
set_option maxHeartbeats 2000000 in
theorem rcheck_any (b : ByteArray) (w : World) (hs : b.size ≤ maxLen) :
    Calls Try.prog 47 #[.string b] w fun e w' => ChkOut w w' b e := by
  go_enter Try.func47, Try.ntmps47
  go_wp2_with fail
  refine (rdecode_any b _ hs).mono ?_
  rintro e w1 ⟨ho, hb1⟩
  obtain ⟨kv, vv, rfl, hr⟩ := ho.one
  clear ho
  have HIS : Hid ((Pu.decode b).2.1 = 0 → Pu.isMd (Pu.decode b).1 = true) := fun h => dec_is h
  have HC : Hid (∀ e p, ((¬ (Pu.decode b).2.1 = 0 ∧ e = (Pu.decode b).2.1 ∧ p = (Pu.decode b).2.2) ∨ ((Pu.decode b).2.1 = 0 ∧ FlowSays (Pu.decode b).1 e p)) → ChkSays b e p) := fun e p h => h
  generalize (Pu.decode b).1 = m at *
  generalize (Pu.decode b).2.1 = ev at *
  generalize (Pu.decode b).2.2 = av at *
  obtain ⟨a1, c1, rfl⟩ := hr.k.shape
  obtain ⟨ao, cap, bf, off, hvv, h1, h2⟩ := hr.v
  subst hvv
  have H1 := hid h1
  have H2 := hid h2
  have HM := hid hr
  clear h1 h2 hr
  have hbA := (Below.refl w1.heap.size w1).alloc (Nat.le_refl _) (.cells #[.slice a1 m.kinds.length c1, .slice ao m.funcs.length cap] 33)
  have mb0 : F2 (w1.alloc (.cells #[.slice a1 m.kinds.length c1, .slice ao m.funcs.length cap] 33)) w1.heap.size 33 (.slice a1 m.kinds.length c1) (.slice ao m.funcs.length cap) := heap_alloc_new w1 _
  have hb2 := hb1.trans (hbA.mono hb1.size)
  have hz := hb1.size
  by_cases hev : ev = 0
  · subst hev
    have HI := hid (HIS.out rfl)
    have HC0 : Hid (∀ e p, FlowSays m e p → ChkSays b e p) := fun e p h => HC.out e p (.inr ⟨rfl, h⟩)
    have HX : Hid (∀ wr, Below w1.heap.size w1 wr → Below w.heap.size w wr) := hid fun wr h => hb1.trans (h.mono hb1.size)
    have hsm := (is_small HI.out).2
    clear HIS HC hb1 hb2
    go_wp2_with fail
    go_loopw [7] (fun i wr => ∃ k : Nat, k ≤ m.funcs.length ∧ i = .int .i64 k ∧ (∀ j, j < k → Fl.Sound m (m.funcs.getD j ⟨[], [], [], []⟩)) ∧ F2 wr w1.heap.size 33 (.slice a1 m.kinds.length c1) (.slice ao m.funcs.length cap) ∧ Below w1.heap.size w1 wr) (fun i _ => m.funcs.length - (intOf i).toNat)
    case atStart => exact ⟨0, Nat.zero_le _, rfl, fun j hj => by omega, mb0, hbA⟩
    case round =>
      obtain ⟨k, hk, rfl, hg, mb, bl⟩ := hrel
      clear mb0 hbA
      have HG := hid hg
      clear hg
      have d0 := mb.c0
      have d1 := mb.c1
      have l0 := mb.lt
      by_cases hlt : k < m.funcs.length
      · obtain ⟨rfl, hbB⟩ := H1.out (by omega)
        obtain ⟨y, g0, g1, g2, g3, hy⟩ := H2.out k hlt
        obtain ⟨x1, y1, x2, y2, x3, y3, x4, y4, rfl⟩ := hy.shape
        have k0 := (bl.cell (p := ⟨bf, off + k * 4, none⟩) hbB).trans g0
        have k1 := (bl.cell (p := ⟨bf, off + k * 4 + 1, none⟩) hbB).trans g1
        have k2 := (bl.cell (p := ⟨bf, off + k * 4 + 2, none⟩) hbB).trans g2
        have k3 := (bl.cell (p := ⟨bf, off + k * 4 + 3, none⟩) hbB).trans g3
        have lb : bf < wr.heap.size := Nat.lt_of_lt_of_le hbB bl.size
        have hmem : m.funcs.getD k ⟨[], [], [], []⟩ ∈ m.funcs := by rw [List.getD_eq_getElem?_getD, List.getElem?_eq_getElem hlt]; exact List.getElem_mem hlt
        have fo := isMd_fn HI.out hmem
        have fl := isMd_low HI.out hmem
        have po := isMd_put HI.out hmem
        have hjj := isMd_jump HI.out hmem
        have HGK : Hid (Fl.Sound m (m.funcs.getD k ⟨[], [], [], []⟩) → ∀ j, j < k + 1 → Fl.Sound m (m.funcs.getD j ⟨[], [], [], []⟩)) := fun hs j hj => by
          by_cases hjk : j < k
          · exact HG.out j hjk
          · rw [show j = k from by omega]; exact hs
        have HFB : Hid (¬ Fl.Sound m (m.funcs.getD k ⟨[], [], [], []⟩) → FirstBad m k) := fun hs => ⟨hlt, hs, HG.out⟩
        generalize m.funcs.getD k ⟨[], [], [], []⟩ = f at *
        simp only at k0 k1 k2 k3
        clear g0 g1 g2 g3 hmem HG
        have hmr : MdR wr.drew wr.drew.heap.size _ _ m := ((HM.out.below bl).wide bl.size).below ((Below.refl _ _).drew)
        have hfr : FnR wr.drew wr.drew.heap.size _ f := ((hy.below bl).wide bl.size).below ((Below.refl _ _).drew)
        have HSND := hid (rsound_any m f _ _ _ _ hmr hfr (isMd_mdok HI.out) fo fl po hjj.2 hjj.1)
        clear fo fl po hjj hmr hfr hy
        go_wp2_with fail
        go_region_held3 (fun w' => w'.cell? ⟨w1.heap.size, 0, none⟩ = some (.slice a1 m.kinds.length c1) ∧ w'.cell? ⟨w1.heap.size, 1, none⟩ = some (.slice (some ⟨bf, off, none⟩) m.funcs.length cap) ∧ w'.cell? ⟨bf, off + k * 4, none⟩ = some (.slice x1 f.params.length y1) ∧ w'.cell? ⟨bf, off + k * 4 + 1, none⟩ = some (.slice x2 f.results.length y2) ∧ w'.cell? ⟨bf, off + k * 4 + 2, none⟩ = some (.slice x3 f.locals.length y3) ∧ w'.cell? ⟨bf, off + k * 4 + 3, none⟩ = some (.slice x4 f.code.length y4))
          (first | exact ⟨d0, d1, k0, k1, k2, k3⟩ | exact ⟨(hb3.cell (p := ⟨w1.heap.size, 0, none⟩) l0).trans d0, (hb3.cell (p := ⟨w1.heap.size, 1, none⟩) l0).trans d1, (hb3.cell (p := ⟨bf, off + k * 4, none⟩) lb).trans k0, (hb3.cell (p := ⟨bf, off + k * 4 + 1, none⟩) lb).trans k1, (hb3.cell (p := ⟨bf, off + k * 4 + 2, none⟩) lb).trans k2, (hb3.cell (p := ⟨bf, off + k * 4 + 3, none⟩) lb).trans k3⟩)
          ((go_at_call 81; refine HSND.out.mono ?_; rintro e w3 ⟨r, rfl, hr, hb3⟩))
        have hbw : Below wr.heap.size wr w3 := ((Below.refl _ _).drew).trans hb3
        have bl3 : Below w1.heap.size w1 w3 := bl.trans (hbw.mono bl.size)
        have mb3 : F2 w3 w1.heap.size 33 _ _ := (hbw.block _ mb.lt).trans mb
        clear hb3 hbw HSND k0 k1 k2 k3 d0 d1 mb bl
        cases r with
        | true =>
          have HG2 := hid (HGK.out (hr.1 rfl))
          clear hr HGK HFB
          go_wp2
          go_roundw
          case rel => exact ⟨k + 1, hlt, by go_num, HG2.out, mb3, bl3⟩
          case measure => simp [intOf]; omega
        | false =>
          have hns : ¬ Fl.Sound m f := fun hs => by have := hr.2 hs; simp at this
          have FIN : Hid (ChkOut w w3 b (.returned (.tuple #[.int .i64 3, .int .i64 k]))) := ⟨3, k, rfl, HC0.out _ _ (.inl ⟨rfl, k, rfl, HFB.out hns⟩), HX.out _ bl3⟩
          clear hr HGK HFB hns mb3
          go_wp2
          go_ret2
          exact FIN.out
      · have FIN : Hid (ChkOut w wr b (.returned (.tuple #[.int .i64 0, .int .i64 0]))) := ⟨0, 0, rfl, HC0.out _ _ (.inr ⟨rfl, rfl, fun j hj => HG.out j (by omega)⟩), HX.out _ bl⟩
        go_wp2
        go_ret2
        exact FIN.out
  · have FIN : Hid (ChkOut w (w1.alloc (.cells #[.slice a1 m.kinds.length c1, .slice ao m.funcs.length cap] 33)) b (.returned (.tuple #[.int .i64 ev, .int .i64 av]))) := ⟨ev, av, rfl, HC.out _ _ (.inl ⟨hev, rfl, rfl⟩), hb2⟩
    clear hb2 mb0 hbA hb1 HC HIS
    go_wp2
    go_ret2
    exact FIN.out

set_option maxRecDepth 100000 in
set_option maxHeartbeats 2000000 in
theorem lcheck_any (b : ByteArray) (w : World) (hs : b.size ≤ maxLen) :
    Calls Try.prog 18 #[.string b] w fun e w' => e = .returned (.bool true) ∧ Below w.heap.size w w' := by
  go_enter Try.func18, Try.ntmps18
  go_wp2_with fail
  refine (fcheck_any b _ hs).mono ?_
  rintro e w1 ⟨e1, p1, rfl, hc1, hb1⟩
  go_wp2_with fail
  refine (rcheck_any b _ hs).mono ?_
  rintro e w2 ⟨e2, p2, rfl, hc2, hb2⟩
  obtain ⟨rfl, rfl⟩ := hc1.one hc2
  have hb3 := hb1.trans (hb2.mono hb1.size)
  clear hc1 hc2 hb1 hb2
  go_wp2_with (go_at_call 36; refine (num_any _ _).mono ?_; rintro e w3 ⟨rfl, rfl⟩)
  go_ret
  exact ⟨by simp, hb3⟩

set_option maxRecDepth 100000 in
set_option maxHeartbeats 1000000 in
theorem checked_walk (b : ByteArray) (w : World) (hs : b.size ≤ maxLen) :
    Calls Try.prog 7 #[.string b] w fun e w' => e = .returned (.bool true) ∧ Below w.heap.size w w' := by
  go_enter Try.func7, Try.ntmps7
  go_wp2_with fail
  refine (lcheck_any b _ hs).mono ?_
  rintro e w1 ⟨rfl, hb⟩
  go_wp2
  go_ret
  exact ⟨rfl, hb⟩
end Go.Proofs.Ytjamgmbdilkbcaa
