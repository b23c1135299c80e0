import Derived.Test.YtjamgmbdilkbcaaLotStraight28
/- CheckModule, Check. -/
namespace Go.Proofs.Ytjamgmbdilkbcaa
open Go.RowKit

theorem isMd_kinds {m : Pu.Md} (h : Pu.isMd m = true) : KindsOk m := by
  simp only [Pu.isMd, Bool.and_eq_true, decide_eq_true_eq, List.all_eq_true] at h
  obtain ⟨h1, _⟩ := h
  simp only [Pu.isList, Bool.and_eq_true, decide_eq_true_eq, List.all_eq_true] at h1
  intro k hk
  exact h1.2 k hk

theorem isMd_fn {m : Pu.Md} (h : Pu.isMd m = true) {f : Pu.Fn} (hf : f ∈ m.funcs) : FnOk m f := by
  simp only [Pu.isMd, Bool.and_eq_true, decide_eq_true_eq, List.all_eq_true] at h
  obtain ⟨_, _, _, h4⟩ := h
  have hh := h4 f hf
  simp only [Pu.isFn, Pu.isList, Pu.isCode, Bool.and_eq_true, decide_eq_true_eq, List.all_eq_true] at hh
  obtain ⟨⟨p1, _⟩, ⟨r1, _⟩, ⟨l1, _⟩, c1, c2, c3⟩ := hh
  have hi : ∀ i, i < f.code.length → Pu.isInstr m.kinds.length m.funcs.length ((f.params.length : Int) + (f.locals.length : Int)) f.code.length (f.code.getD i (0, 0)) = true := fun i hi => by
    refine c3 _ ?_
    rw [List.getD_eq_getElem?_getD, List.getElem?_eq_getElem hi]
    exact List.getElem_mem hi
  refine ⟨by unfold Fl.places; rw [List.length_append]; omega, by omega, by omega, fun i hil => ?_, fun i hil hop => ?_⟩
  · have hx := hi i hil
    generalize f.code.getD i (0, 0) = x at *
    simp only [Pu.isInstr, Bool.and_eq_true, decide_eq_true_eq] at hx
    obtain ⟨⟨⟨x1, x2⟩, x3⟩, x4⟩ := hx
    refine ⟨⟨x1, x2⟩, fun hop => ?_, fun hop => ?_⟩
    · unfold Pu.argLo at x3
      unfold Pu.argHi at x4
      rw [if_neg (by omega)] at x3
      rw [if_neg (by omega), if_neg (by omega), if_pos hop] at x4
      unfold Fl.places
      rw [List.length_append]
      omega
    · unfold Pu.argLo at x3
      unfold Pu.argHi at x4
      rw [if_neg (by omega)] at x3
      rw [if_neg (by omega), if_neg (by omega), if_neg (by omega), if_neg (by omega), if_pos hop] at x4
      omega
  · have hx := hi i hil
    generalize f.code.getD i (0, 0) = x at *
    simp only [Pu.isInstr, Bool.and_eq_true, decide_eq_true_eq] at hx
    obtain ⟨⟨⟨x1, x2⟩, x3⟩, x4⟩ := hx
    unfold Pu.argLo at x3
    rw [if_neg (by omega)] at x3
    exact x3

/-- the first function that is not sound. -/
def FirstBad (m : Pu.Md) (i : Nat) : Prop := i < m.funcs.length ∧ ¬ Fl.Sound m (m.funcs.getD i ⟨[], [], [], []⟩) ∧ ∀ j, j < i → Fl.Sound m (m.funcs.getD j ⟨[], [], [], []⟩)
def AllGood (m : Pu.Md) : Prop := ∀ j, j < m.funcs.length → Fl.Sound m (m.funcs.getD j ⟨[], [], [], []⟩)

/-- an error and a number. -/
def FlowSays (m : Pu.Md) (e p : Int) : Prop := (e = 3 ∧ ∃ i : Nat, p = i ∧ FirstBad m i) ∨ (e = 0 ∧ p = 0 ∧ AllGood m)

theorem FlowSays.one {m : Pu.Md} {e p e' p' : Int} (h : FlowSays m e p) (h' : FlowSays m e' p') : e = e' ∧ p = p' := by
  rcases h with ⟨rfl, i, rfl, h1, h2, h3⟩ | ⟨rfl, rfl, h⟩
  · rcases h' with ⟨rfl, j, rfl, k1, k2, k3⟩ | ⟨rfl, rfl, k⟩
    · refine ⟨rfl, ?_⟩
      by_cases hij : i < j
      · exact absurd (k3 i hij) h2
      · by_cases hji : j < i
        · exact absurd (h3 j hji) k2
        · omega
    · exact absurd (k i h1) h2
  · rcases h' with ⟨rfl, j, rfl, k1, k2, k3⟩ | ⟨rfl, rfl, k⟩
    · exact absurd (h j k1) k2
    · exact ⟨rfl, rfl⟩

def FlowOut (w w' : World) (m : Pu.Md) (r : Ending) : Prop := ∃ e p, r = .returned (.tuple #[.int .i64 e, .int .i64 p]) ∧ FlowSays m e p ∧ Below w.heap.size w w'

set_option maxRecDepth 100000 in
set_option maxHeartbeats 2000000 in
theorem fcheckm_any (m : Pu.Md) (mk mv : Value) (w : World) (hm : MdR w w.heap.size mk mv m) (h : Pu.isMd m = true) :
    Calls Try.prog 60 #[.agg #[mk, mv]] w fun e w' => FlowOut w w' m e := by
  have hsm := (is_small h).2
  obtain ⟨a1, c1, rfl⟩ := hm.k.shape
  obtain ⟨ao, cap, b, off, hvv, h1, h2⟩ := hm.v
  subst hvv
  have H1 := hid h1
  have H2 := hid h2
  have HM := hid hm
  have HI := hid h
  have bl0 := (Below.refl w.heap.size w).alloc (Nat.le_refl _) (.cells #[.slice a1 m.kinds.length c1, .slice ao m.funcs.length cap] 33)
  have mb0 : F2 (w.alloc (.cells #[.slice a1 m.kinds.length c1, .slice ao m.funcs.length cap] 33)) w.heap.size 33 (.slice a1 m.kinds.length c1) (.slice ao m.funcs.length cap) := heap_alloc_new w _
  clear h1 h2 hm h
  go_enter Try.func60, Try.ntmps60
  go_wp2
  go_loopw [4] (fun i wr => ∃ k : Nat, k ≤ m.funcs.length ∧ i = .int .i64 k ∧ (∀ j, j < k → Fl.Sound m (m.funcs.getD j ⟨[], [], [], []⟩)) ∧ F2 wr w.heap.size 33 (.slice a1 m.kinds.length c1) (.slice ao m.funcs.length cap) ∧ Below w.heap.size w wr) (fun i _ => m.funcs.length - (intOf i).toNat)
  case atStart => exact ⟨0, Nat.zero_le _, rfl, fun j hj => by omega, mb0, bl0⟩
  case round =>
    obtain ⟨k, hk, rfl, hg, mb, bl⟩ := hrel
    clear mb0 bl0
    have HG := hid hg
    clear hg
    have d0 := mb.c0
    have d1 := mb.c1
    have l0 := mb.lt
    by_cases hlt : k < m.funcs.length
    · obtain ⟨rfl, hbB⟩ := H1.out (by omega)
      obtain ⟨y, g0, g1, g2, g3, hy⟩ := H2.out k hlt
      obtain ⟨x1, y1, x2, y2, x3, y3, x4, y4, rfl⟩ := hy.shape
      have k0 := (bl.cell (p := ⟨b, off + k * 4, none⟩) hbB).trans g0
      have k1 := (bl.cell (p := ⟨b, off + k * 4 + 1, none⟩) hbB).trans g1
      have k2 := (bl.cell (p := ⟨b, off + k * 4 + 2, none⟩) hbB).trans g2
      have k3 := (bl.cell (p := ⟨b, off + k * 4 + 3, none⟩) hbB).trans g3
      have lb : b < wr.heap.size := Nat.lt_of_lt_of_le hbB bl.size
      have hmem : m.funcs.getD k ⟨[], [], [], []⟩ ∈ m.funcs := by rw [List.getD_eq_getElem?_getD, List.getElem?_eq_getElem hlt]; exact List.getElem_mem hlt
      have fo := isMd_fn HI.out hmem
      have HGK : Hid (Fl.Sound m (m.funcs.getD k ⟨[], [], [], []⟩) → ∀ j, j < k + 1 → Fl.Sound m (m.funcs.getD j ⟨[], [], [], []⟩)) := fun hs j hj => by
        by_cases hjk : j < k
        · exact HG.out j hjk
        · rw [show j = k from by omega]; exact hs
      have HFB : Hid (¬ Fl.Sound m (m.funcs.getD k ⟨[], [], [], []⟩) → FirstBad m k) := fun hs => ⟨hlt, hs, HG.out⟩
      generalize m.funcs.getD k ⟨[], [], [], []⟩ = f at *
      simp only at k0 k1 k2 k3
      clear g0 g1 g2 g3 hmem HG
      have hmr : MdR wr.drew wr.drew.heap.size _ _ m := ((HM.out.below bl).wide bl.size).below ((Below.refl _ _).drew)
      have hfr : FnR wr.drew wr.drew.heap.size _ f := ((hy.below bl).wide bl.size).below ((Below.refl _ _).drew)
      go_wp2_with fail
      go_region_held3 (fun w' => w'.cell? ⟨w.heap.size, 0, none⟩ = some (.slice a1 m.kinds.length c1) ∧ w'.cell? ⟨w.heap.size, 1, none⟩ = some (.slice (some ⟨b, off, none⟩) m.funcs.length cap) ∧ w'.cell? ⟨b, off + k * 4, none⟩ = some (.slice x1 f.params.length y1) ∧ w'.cell? ⟨b, off + k * 4 + 1, none⟩ = some (.slice x2 f.results.length y2) ∧ w'.cell? ⟨b, off + k * 4 + 2, none⟩ = some (.slice x3 f.locals.length y3) ∧ w'.cell? ⟨b, off + k * 4 + 3, none⟩ = some (.slice x4 f.code.length y4))
        (first | exact ⟨d0, d1, k0, k1, k2, k3⟩ | exact ⟨(hb3.cell (p := ⟨w.heap.size, 0, none⟩) l0).trans d0, (hb3.cell (p := ⟨w.heap.size, 1, none⟩) l0).trans d1, (hb3.cell (p := ⟨b, off + k * 4, none⟩) lb).trans k0, (hb3.cell (p := ⟨b, off + k * 4 + 1, none⟩) lb).trans k1, (hb3.cell (p := ⟨b, off + k * 4 + 2, none⟩) lb).trans k2, (hb3.cell (p := ⟨b, off + k * 4 + 3, none⟩) lb).trans k3⟩)
        ((go_at_call 51; refine (fsound_any m f _ _ _ _ hmr hfr (isMd_kinds HI.out) fo).mono ?_; rintro e w3 ⟨r, rfl, hr, hb3⟩))
      have hbw : Below wr.heap.size wr w3 := ((Below.refl _ _).drew).trans hb3
      have bl3 : Below w.heap.size w w3 := bl.trans (hbw.mono bl.size)
      have mb3 : F2 w3 w.heap.size 33 _ _ := (hbw.block _ mb.lt).trans mb
      clear hb3 hbw hmr hfr fo hy k0 k1 k2 k3 d0 d1 mb bl
      cases r with
      | true =>
        have HG2 := hid (HGK.out (hr.1 rfl))
        clear hr HGK HFB
        go_wp2
        go_roundw
        case rel => exact ⟨k + 1, hlt, by go_num, HG2.out, mb3, bl3⟩
        case measure => simp [intOf]; omega
      | false =>
        have hns : ¬ Fl.Sound m f := fun hs => by have := hr.2 hs; simp at this
        have FIN : Hid (FlowOut w w3 m (.returned (.tuple #[.int .i64 3, .int .i64 k]))) := ⟨3, k, rfl, .inl ⟨rfl, k, rfl, HFB.out hns⟩, bl3⟩
        clear hr HGK HFB hns mb3
        go_wp2
        go_ret2
        exact FIN.out
    · have FIN : Hid (FlowOut w wr m (.returned (.tuple #[.int .i64 0, .int .i64 0]))) := ⟨0, 0, rfl, .inr ⟨rfl, rfl, fun j hj => HG.out j (by omega)⟩, bl⟩
      go_wp2
      go_ret2
      exact FIN.out

/-- what Check says. -/
def ChkSays (b : ByteArray) (e p : Int) : Prop := (¬ (Pu.decode b).2.1 = 0 ∧ e = (Pu.decode b).2.1 ∧ p = (Pu.decode b).2.2) ∨ ((Pu.decode b).2.1 = 0 ∧ FlowSays (Pu.decode b).1 e p)

theorem ChkSays.one {b : ByteArray} {e p e' p' : Int} (h : ChkSays b e p) (h' : ChkSays b e' p') : e = e' ∧ p = p' := by
  rcases h with ⟨h1, h2, h3⟩ | ⟨h1, h2⟩
  · rcases h' with ⟨_, k2, k3⟩ | ⟨k1, _⟩
    · exact ⟨by rw [h2, k2], by rw [h3, k3]⟩
    · exact absurd k1 h1
  · rcases h' with ⟨k1, _⟩ | ⟨_, k2⟩
    · exact absurd h1 k1
    · exact h2.one k2

def ChkOut (w w' : World) (b : ByteArray) (r : Ending) : Prop := ∃ e p, r = .returned (.tuple #[.int .i64 e, .int .i64 p]) ∧ ChkSays b e p ∧ Below w.heap.size w w'

set_option maxRecDepth 100000 in
set_option maxHeartbeats 2000000 in
theorem fcheck_any (b : ByteArray) (w : World) (hs : b.size ≤ maxLen) :
    Calls Try.prog 31 #[.string b] w fun e w' => ChkOut w w' b e := by
  go_enter Try.func31, Try.ntmps31
  go_wp2_with fail
  refine (readModule_any b _ hs).mono ?_
  rintro e w1 ⟨ho, hb1⟩
  obtain ⟨k, v, xs, rfl, hm, _, _⟩ := ho.one
  obtain ⟨a1, c1, rfl⟩ := owns_shape hm.hk
  obtain ⟨a2, c2, rfl⟩ := owns_shape hm.hv
  clear ho
  have HIS : Hid ((Pu.decode b).2.1 = 0 → Pu.isMd (Pu.decode b).1 = true) := fun h => dec_is h
  have HC : Hid (∀ e p, ((¬ (Pu.decode b).2.1 = 0 ∧ e = (Pu.decode b).2.1 ∧ p = (Pu.decode b).2.2) ∨ ((Pu.decode b).2.1 = 0 ∧ FlowSays (Pu.decode b).1 e p)) → ChkSays b e p) := fun e p h => h
  have hr := mdAt_reads hm
  generalize (Pu.decode b).1 = m at *
  generalize (Pu.decode b).2.1 = ev at *
  generalize (Pu.decode b).2.2 = av at *
  have hbA := (Below.refl w1.heap.size w1).alloc (Nat.le_refl _) (.cells #[.slice a1 m.kinds.length c1, .slice a2 m.funcs.length c2] 33)
  have bxA : F2 (w1.alloc (.cells #[.slice a1 m.kinds.length c1, .slice a2 m.funcs.length c2] 33)) w1.heap.size 33 (.slice a1 m.kinds.length c1) (.slice a2 m.funcs.length c2) := heap_alloc_new w1 _
  have hrA := (hr.below hbA).wide hbA.size
  have hb2 := hb1.trans (hbA.mono hb1.size)
  clear hm hr
  by_cases hev : ev = 0
  · subst hev
    have his := HIS.out rfl
    have HC0 : Hid (∀ e p, FlowSays m e p → ChkSays b e p) := fun e p h => HC.out e p (.inr ⟨rfl, h⟩)
    clear HIS HC
    go_wp2_with fail
    refine (fcheckm_any m _ _ _ hrA his).mono ?_
    rintro e w3 ⟨e3, p3, rfl, hf3, hb3⟩
    have FIN : Hid (ChkOut w w3 b (.returned (.tuple #[.int .i64 e3, .int .i64 p3]))) := ⟨e3, p3, rfl, HC0.out _ _ hf3, hb2.trans (hb3.mono hb2.size)⟩
    clear hf3 hb3 hb2 hrA bxA hbA hb1 HC0
    go_wp2
    go_ret2
    exact FIN.out
  · have FIN : Hid (ChkOut w (w1.alloc (.cells #[.slice a1 m.kinds.length c1, .slice a2 m.funcs.length c2] 33)) b (.returned (.tuple #[.int .i64 ev, .int .i64 av]))) := ⟨ev, av, rfl, HC.out _ _ (.inl ⟨hev, rfl, rfl⟩), hb2⟩
    clear hb2 hrA bxA hbA hb1 HC HIS
    go_wp2
    go_ret2
    exact FIN.out
end Go.Proofs.Ytjamgmbdilkbcaa

/- New, walked. -/
namespace Go.Proofs.Ytjamgmbdilkbcaa
open Go.RowKit

/-- nothing is held. -/
def noHeld : List Value := (List.replicate 48 [Value.bool false, .int .i64 0]).flatten
/-- a ledger in memory: its module, what is held. -/
structure LedR (w : World) (q : Nat) (mk mv : Value) (held : List Value) : Prop where
  b : w.heap[q]? = some (.cells (mk :: mv :: held).toArray 114 (0, 0))

/-- what New leaves. -/
def NewOut (w w' : World) (b : ByteArray) (r : Ending) : Prop :=
  (∃ e p, e ≠ 0 ∧ ChkSays b e p ∧ r = .returned (.tuple #[.pointer none, .int .i64 e]) ∧ Below w.heap.size w w') ∨
  (∃ p q mk mv, ChkSays b 0 p ∧ r = .returned (.tuple #[.pointer (some ⟨q, 0, none⟩), .int .i64 0]) ∧ w.heap.size ≤ q ∧ LedR w' q mk mv noHeld ∧ MdR w' q mk mv (Pu.decode b).1 ∧ Pu.isMd (Pu.decode b).1 = true ∧ AllGood (Pu.decode b).1 ∧ Below w.heap.size w w')

theorem zeroLedger : Try.zeroCells114.toList = .slice none 0 0 :: .slice none 0 0 :: noHeld := by kernel_rfl
theorem newCells (a b : Value) : ((Try.zeroCells114.setIfInBounds 0 a).setIfInBounds 1 b) = (a :: b :: noHeld).toArray := by
  apply Array.toList_inj.1
  rw [Array.toList_setIfInBounds, Array.toList_setIfInBounds, zeroLedger]
  rfl

set_option maxRecDepth 100000 in
set_option maxHeartbeats 2000000 in
theorem new_any (b : ByteArray) (w : World) (hs : b.size ≤ maxLen) :
    Calls Try.prog 32 #[.string b] w fun e w' => NewOut w w' b e := by
  go_enter Try.func32, Try.ntmps32
  go_wp2_with fail
  refine (readModule_any b _ hs).mono ?_
  rintro e w1 ⟨ho, hb1⟩
  obtain ⟨k, v, xs, rfl, hm, _, _⟩ := ho.one
  obtain ⟨a1, c1, rfl⟩ := owns_shape hm.hk
  obtain ⟨a2, c2, rfl⟩ := owns_shape hm.hv
  clear ho
  have HFIN : Hid (∀ p q mk mv w', ChkSays b 0 p → w.heap.size ≤ q → LedR w' q mk mv noHeld → MdR w' q mk mv (Pu.decode b).1 → Pu.isMd (Pu.decode b).1 = true → AllGood (Pu.decode b).1 → Below w.heap.size w w' → NewOut w w' b (.returned (.tuple #[.pointer (some ⟨q, 0, none⟩), .int .i64 0]))) := hid fun p q mk mv w' h1 h2 h3 h4 h5 h6 h7 => .inr ⟨p, q, mk, mv, h1, rfl, h2, h3, h4, h5, h6, h7⟩
  have HIS : Hid ((Pu.decode b).2.1 = 0 → Pu.isMd (Pu.decode b).1 = true) := fun h => dec_is h
  have HC : Hid (∀ e p, ((¬ (Pu.decode b).2.1 = 0 ∧ e = (Pu.decode b).2.1 ∧ p = (Pu.decode b).2.2) ∨ ((Pu.decode b).2.1 = 0 ∧ FlowSays (Pu.decode b).1 e p)) → ChkSays b e p) := fun e p h => h
  have hr := mdAt_reads hm
  generalize (Pu.decode b).1 = m at *
  generalize (Pu.decode b).2.1 = ev at *
  generalize (Pu.decode b).2.2 = av at *
  have hbA := (Below.refl w1.heap.size w1).alloc (Nat.le_refl _) (.cells #[.slice a1 m.kinds.length c1, .slice a2 m.funcs.length c2] 33)
  have bxA : F2 (w1.alloc (.cells #[.slice a1 m.kinds.length c1, .slice a2 m.funcs.length c2] 33)) w1.heap.size 33 (.slice a1 m.kinds.length c1) (.slice a2 m.funcs.length c2) := heap_alloc_new w1 _
  have hrA := (hr.below hbA).wide hbA.size
  have hb2 := hb1.trans (hbA.mono hb1.size)
  clear hm hr
  by_cases hev : ev = 0
  · subst hev
    have his := HIS.out rfl
    have HC0 : Hid (∀ e p, FlowSays m e p → ChkSays b e p) := fun e p h => HC.out e p (.inr ⟨rfl, h⟩)
    clear HIS HC
    go_wp2_with fail
    refine (fcheckm_any m _ _ _ hrA his).mono ?_
    rintro e w3 ⟨e3, p3, rfl, hf3, hb3⟩
    have bx3 : F2 w3 w1.heap.size 33 _ _ := (hb3.block _ bxA.lt).trans bxA
    have d0 := bx3.c0
    have d1 := bx3.c1
    by_cases he3 : e3 = 0
    · subst he3
      have hag : AllGood m := by
        rcases hf3 with ⟨h, _⟩ | ⟨_, _, h⟩
        · cases h
        · exact h
      have z1 := hb1.size
      have z3 := hb3.size
      simp only [World.size_alloc] at z3
      have al := (Below.refl w3.heap.size w3).alloc (Nat.le_refl _) (.cells ((Try.zeroCells114.setIfInBounds 0 (.slice a1 m.kinds.length c1)).setIfInBounds 1 (.slice a2 m.funcs.length c2)) 114)
      have hbF : Below w.heap.size w (w3.alloc (.cells ((Try.zeroCells114.setIfInBounds 0 (.slice a1 m.kinds.length c1)).setIfInBounds 1 (.slice a2 m.funcs.length c2)) 114)) := (hb2.trans (hb3.mono (by simp only [World.size_alloc]; omega))).trans (al.mono (by omega))
      have hm3 := ((hrA.below hb3).wide hb3.size).below al
      have FIN := hid (HFIN.out p3 w3.heap.size (.slice a1 m.kinds.length c1) (.slice a2 m.funcs.length c2) _ (HC0.out 0 p3 hf3) (by omega) ⟨by rw [heap_alloc_new, newCells]⟩ hm3 his hag hbF)
      clear hf3 hb3 hb2 hrA bxA hbA hb1 HC0 bx3 HFIN al hbF hm3 hag
      go_wp2_with fail
      go_ret2
      exact FIN.out
    · have FIN : Hid (NewOut w w3 b (.returned (.tuple #[.pointer none, .int .i64 e3]))) := .inl ⟨e3, p3, he3, HC0.out _ _ hf3, rfl, hb2.trans (hb3.mono hb2.size)⟩
      clear hf3 hb3 hb2 hrA bxA hbA hb1 HC0 bx3 HFIN
      go_wp2_with fail
      go_ret2
      exact FIN.out
  · have FIN : Hid (NewOut w (w1.alloc (.cells #[.slice a1 m.kinds.length c1, .slice a2 m.funcs.length c2] 33)) b (.returned (.tuple #[.pointer none, .int .i64 ev]))) := .inl ⟨ev, av, hev, HC.out _ _ (.inl ⟨hev, rfl, rfl⟩), rfl, hb2⟩
    clear hb2 hrA bxA hbA hb1 HC HIS HFIN
    go_wp2_with fail
    go_ret2
    exact FIN.out
end Go.Proofs.Ytjamgmbdilkbcaa
