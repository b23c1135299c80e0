import Derived.Test.YtjamgmbdilkbcaaLotGased26
/- CheckModule, Check. -/
namespace Go.Proofs.Ytjamgmbdilkbcaa
open Go.RowKit

theorem isMd_kinds {m : Pu.Md} (h : Pu.isMd m = true) : KindsOk m := by
  simp only [Pu.isMd, Bool.and_eq_true, decide_eq_true_eq, List.all_eq_true] at h
  obtain ⟨h1, _⟩ := h
  simp only [Pu.isList, Bool.and_eq_true, decide_eq_true_eq, List.all_eq_true] at h1
  intro k hk
  exact h1.2 k hk

theorem isMd_fn {m : Pu.Md} (h : Pu.isMd m = true) {f : Pu.Fn} (hf : f ∈ m.funcs) : FnOk m f := by
  simp only [Pu.isMd, Bool.and_eq_true, decide_eq_true_eq, List.all_eq_true] at h
  obtain ⟨_, _, _, h4⟩ := h
  have hh := h4 f hf
  simp only [Pu.isFn, Pu.isList, Pu.isCode, Bool.and_eq_true, decide_eq_true_eq, List.all_eq_true] at hh
  obtain ⟨⟨p1, _⟩, ⟨r1, _⟩, ⟨l1, _⟩, c1, c2, c3⟩ := hh
  have hi : ∀ i, i < f.code.length → Pu.isInstr m.kinds.length m.funcs.length ((f.params.length : Int) + (f.locals.length : Int)) f.code.length (f.code.getD i (0, 0)) = true := fun i hi => by
    refine c3 _ ?_
    rw [List.getD_eq_getElem?_getD, List.getElem?_eq_getElem hi]
    exact List.getElem_mem hi
  refine ⟨by unfold Fl.places; rw [List.length_append]; omega, by omega, by omega, fun i hil => ?_, fun i hil hop => ?_⟩
  · have hx := hi i hil
    generalize f.code.getD i (0, 0) = x at *
    simp only [Pu.isInstr, Bool.and_eq_true, decide_eq_true_eq] at hx
    obtain ⟨⟨⟨x1, x2⟩, x3⟩, x4⟩ := hx
    refine ⟨⟨x1, x2⟩, fun hop => ?_, fun hop => ?_⟩
    · unfold Pu.argLo at x3
      unfold Pu.argHi at x4
      rw [if_neg (by omega)] at x3
      rw [if_neg (by omega), if_neg (by omega), if_pos hop] at x4
      unfold Fl.places
      rw [List.length_append]
      omega
    · unfold Pu.argLo at x3
      unfold Pu.argHi at x4
      rw [if_neg (by omega)] at x3
      rw [if_neg (by omega), if_neg (by omega), if_neg (by omega), if_neg (by omega), if_pos hop] at x4
      omega
  · have hx := hi i hil
    generalize f.code.getD i (0, 0) = x at *
    simp only [Pu.isInstr, Bool.and_eq_true, decide_eq_true_eq] at hx
    obtain ⟨⟨⟨x1, x2⟩, x3⟩, x4⟩ := hx
    unfold Pu.argLo at x3
    rw [if_neg (by omega)] at x3
    exact x3

/-- the first function that is not sound. -/
def FirstBad (m : Pu.Md) (i : Nat) : Prop := i < m.funcs.length ∧ ¬ Fl.Sound m (m.funcs.getD i ⟨[], [], [], []⟩) ∧ ∀ j, j < i → Fl.Sound m (m.funcs.getD j ⟨[], [], [], []⟩)
def AllGood (m : Pu.Md) : Prop := ∀ j, j < m.funcs.length → Fl.Sound m (m.funcs.getD j ⟨[], [], [], []⟩)

/-- an error and a number. -/
def FlowSays (m : Pu.Md) (e p : Int) : Prop := (e = 3 ∧ ∃ i : Nat, p = i ∧ FirstBad m i) ∨ (e = 0 ∧ p = 0 ∧ AllGood m)

theorem FlowSays.one {m : Pu.Md} {e p e' p' : Int} (h : FlowSays m e p) (h' : FlowSays m e' p') : e = e' ∧ p = p' := by
  rcases h with ⟨rfl, i, rfl, h1, h2, h3⟩ | ⟨rfl, rfl, h⟩
  · rcases h' with ⟨rfl, j, rfl, k1, k2, k3⟩ | ⟨rfl, rfl, k⟩
    · refine ⟨rfl, ?_⟩
      by_cases hij : i < j
      · exact absurd (k3 i hij) h2
      · by_cases hji : j < i
        · exact absurd (h3 j hji) k2
        · omega
    · exact absurd (k i h1) h2
  · rcases h' with ⟨rfl, j, rfl, k1, k2, k3⟩ | ⟨rfl, rfl, k⟩
    · exact absurd (h j k1) k2
    · exact ⟨rfl, rfl⟩

def FlowOut (w w' : World) (m : Pu.Md) (r : Ending) : Prop := ∃ e p, r = .returned (.tuple #[.int .i64 e, .int .i64 p]) ∧ FlowSays m e p ∧ Below w.heap.size w w'

set_option maxRecDepth 100000 in
set_option maxHeartbeats 2000000 in
theorem fcheckm_any (m : Pu.Md) (mk mv : Value) (w : World) (hm : MdR w w.heap.size mk mv m) (h : Pu.isMd m = true) :
    Calls Try.prog 60 #[.agg #[mk, mv]] w fun e w' => FlowOut w w' m e := by
  have hsm := (is_small h).2
  obtain ⟨a1, c1, rfl⟩ := hm.k.shape
  obtain ⟨ao, cap, b, off, hvv, h1, h2⟩ := hm.v
  subst hvv
  have H1 := hid h1
  have H2 := hid h2
  have HM := hid hm
  have HI := hid h
  have bl0 := (Below.refl w.heap.size w).alloc (Nat.le_refl _) (.cells #[.slice a1 m.kinds.length c1, .slice ao m.funcs.length cap] 33)
  have mb0 : F2 (w.alloc (.cells #[.slice a1 m.kinds.length c1, .slice ao m.funcs.length cap] 33)) w.heap.size 33 (.slice a1 m.kinds.length c1) (.slice ao m.funcs.length cap) := heap_alloc_new w _
  clear h1 h2 hm h
  go_enter Try.func60, Try.ntmps60
  go_wp2
  go_loopw [4] (fun i wr => ∃ k : Nat, k ≤ m.funcs.length ∧ i = .int .i64 k ∧ (∀ j, j < k → Fl.Sound m (m.funcs.getD j ⟨[], [], [], []⟩)) ∧ F2 wr w.heap.size 33 (.slice a1 m.kinds.length c1) (.slice ao m.funcs.length cap) ∧ Below w.heap.size w wr) (fun i _ => m.funcs.length - (intOf i).toNat)
  case atStart => exact ⟨0, Nat.zero_le _, rfl, fun j hj => by omega, mb0, bl0⟩
  case round =>
    obtain ⟨k, hk, rfl, hg, mb, bl⟩ := hrel
    clear mb0 bl0
    have HG := hid hg
    clear hg
    have d0 := mb.c0
    have d1 := mb.c1
    have l0 := mb.lt
    by_cases hlt : k < m.funcs.length
    · obtain ⟨rfl, hbB⟩ := H1.out (by omega)
      obtain ⟨y, g0, g1, g2, g3, hy⟩ := H2.out k hlt
      obtain ⟨x1, y1, x2, y2, x3, y3, x4, y4, rfl⟩ := hy.shape
      have k0 := (bl.cell (p := ⟨b, off + k * 4, none⟩) hbB).trans g0
      have k1 := (bl.cell (p := ⟨b, off + k * 4 + 1, none⟩) hbB).trans g1
      have k2 := (bl.cell (p := ⟨b, off + k * 4 + 2, none⟩) hbB).trans g2
      have k3 := (bl.cell (p := ⟨b, off + k * 4 + 3, none⟩) hbB).trans g3
      have lb : b < wr.heap.size := Nat.lt_of_lt_of_le hbB bl.size
      have hmem : m.funcs.getD k ⟨[], [], [], []⟩ ∈ m.funcs := by rw [List.getD_eq_getElem?_getD, List.getElem?_eq_getElem hlt]; exact List.getElem_mem hlt
      have fo := isMd_fn HI.out hmem
      have HGK : Hid (Fl.Sound m (m.funcs.getD k ⟨[], [], [], []⟩) → ∀ j, j < k + 1 → Fl.Sound m (m.funcs.getD j ⟨[], [], [], []⟩)) := fun hs j hj => by
        by_cases hjk : j < k
        · exact HG.out j hjk
        · rw [show j = k from by omega]; exact hs
      have HFB : Hid (¬ Fl.Sound m (m.funcs.getD k ⟨[], [], [], []⟩) → FirstBad m k) := fun hs => ⟨hlt, hs, HG.out⟩
      generalize m.funcs.getD k ⟨[], [], [], []⟩ = f at *
      simp only at k0 k1 k2 k3
      clear g0 g1 g2 g3 hmem HG
      have hmr : MdR wr.drew wr.drew.heap.size _ _ m := ((HM.out.below bl).wide bl.size).below ((Below.refl _ _).drew)
      have hfr : FnR wr.drew wr.drew.heap.size _ f := ((hy.below bl).wide bl.size).below ((Below.refl _ _).drew)
      go_wp2_with fail
      go_region_held3 (fun w' => w'.cell? ⟨w.heap.size, 0, none⟩ = some (.slice a1 m.kinds.length c1) ∧ w'.cell? ⟨w.heap.size, 1, none⟩ = some (.slice (some ⟨b, off, none⟩) m.funcs.length cap) ∧ w'.cell? ⟨b, off + k * 4, none⟩ = some (.slice x1 f.params.length y1) ∧ w'.cell? ⟨b, off + k * 4 + 1, none⟩ = some (.slice x2 f.results.length y2) ∧ w'.cell? ⟨b, off + k * 4 + 2, none⟩ = some (.slice x3 f.locals.length y3) ∧ w'.cell? ⟨b, off + k * 4 + 3, none⟩ = some (.slice x4 f.code.length y4))
        (first | exact ⟨d0, d1, k0, k1, k2, k3⟩ | exact ⟨(hb3.cell (p := ⟨w.heap.size, 0, none⟩) l0).trans d0, (hb3.cell (p := ⟨w.heap.size, 1, none⟩) l0).trans d1, (hb3.cell (p := ⟨b, off + k * 4, none⟩) lb).trans k0, (hb3.cell (p := ⟨b, off + k * 4 + 1, none⟩) lb).trans k1, (hb3.cell (p := ⟨b, off + k * 4 + 2, none⟩) lb).trans k2, (hb3.cell (p := ⟨b, off + k * 4 + 3, none⟩) lb).trans k3⟩)
        ((go_at_call 51; refine (fsound_any m f _ _ _ _ hmr hfr (isMd_kinds HI.out) fo).mono ?_; rintro e w3 ⟨r, rfl, hr, hb3⟩))
      have hbw : Below wr.heap.size wr w3 := ((Below.refl _ _).drew).trans hb3
      have bl3 : Below w.heap.size w w3 := bl.trans (hbw.mono bl.size)
      have mb3 : F2 w3 w.heap.size 33 _ _ := (hbw.block _ mb.lt).trans mb
      clear hb3 hbw hmr hfr fo hy k0 k1 k2 k3 d0 d1 mb bl
      cases r with
      | true =>
        have HG2 := hid (HGK.out (hr.1 rfl))
        clear hr HGK HFB
        go_wp2
        go_roundw
        case rel => exact ⟨k + 1, hlt, by go_num, HG2.out, mb3, bl3⟩
        case measure => simp [intOf]; omega
      | false =>
        have hns : ¬ Fl.Sound m f := fun hs => by have := hr.2 hs; simp at this
        have FIN : Hid (FlowOut w w3 m (.returned (.tuple #[.int .i64 3, .int .i64 k]))) := ⟨3, k, rfl, .inl ⟨rfl, k, rfl, HFB.out hns⟩, bl3⟩
        clear hr HGK HFB hns mb3
        go_wp2
        go_ret2
        exact FIN.out
    · have FIN : Hid (FlowOut w wr m (.returned (.tuple #[.int .i64 0, .int .i64 0]))) := ⟨0, 0, rfl, .inr ⟨rfl, rfl, fun j hj => HG.out j (by omega)⟩, bl⟩
      go_wp2
      go_ret2
      exact FIN.out

/-- what Check says. -/
def ChkSays (b : ByteArray) (e p : Int) : Prop := (¬ (Pu.decode b).2.1 = 0 ∧ e = (Pu.decode b).2.1 ∧ p = (Pu.decode b).2.2) ∨ ((Pu.decode b).2.1 = 0 ∧ FlowSays (Pu.decode b).1 e p)

theorem ChkSays.one {b : ByteArray} {e p e' p' : Int} (h : ChkSays b e p) (h' : ChkSays b e' p') : e = e' ∧ p = p' := by
  rcases h with ⟨h1, h2, h3⟩ | ⟨h1, h2⟩
  · rcases h' with ⟨_, k2, k3⟩ | ⟨k1, _⟩
    · exact ⟨by rw [h2, k2], by rw [h3, k3]⟩
    · exact absurd k1 h1
  · rcases h' with ⟨k1, _⟩ | ⟨_, k2⟩
    · exact absurd h1 k1
    · exact h2.one k2

def ChkOut (w w' : World) (b : ByteArray) (r : Ending) : Prop := ∃ e p, r = .returned (.tuple #[.int .i64 e, .int .i64 p]) ∧ ChkSays b e p ∧ Below w.heap.size w w'

set_option maxRecDepth 100000 in
set_option maxHeartbeats 2000000 in
theorem fcheck_any (b : ByteArray) (w : World) (hs : b.size ≤ maxLen) :
    Calls Try.prog 31 #[.string b] w fun e w' => ChkOut w w' b e := by
  go_enter Try.func31, Try.ntmps31
  go_wp2_with fail
  refine (readModule_any b _ hs).mono ?_
  rintro e w1 ⟨ho, hb1⟩
  obtain ⟨k, v, xs, rfl, hm, _, _⟩ := ho.one
  obtain ⟨a1, c1, rfl⟩ := owns_shape hm.hk
  obtain ⟨a2, c2, rfl⟩ := owns_shape hm.hv
  clear ho
  have HIS : Hid ((Pu.decode b).2.1 = 0 → Pu.isMd (Pu.decode b).1 = true) := fun h => dec_is h
  have HC : Hid (∀ e p, ((¬ (Pu.decode b).2.1 = 0 ∧ e = (Pu.decode b).2.1 ∧ p = (Pu.decode b).2.2) ∨ ((Pu.decode b).2.1 = 0 ∧ FlowSays (Pu.decode b).1 e p)) → ChkSays b e p) := fun e p h => h
  have hr := mdAt_reads hm
  generalize (Pu.decode b).1 = m at *
  generalize (Pu.decode b).2.1 = ev at *
  generalize (Pu.decode b).2.2 = av at *
  have hbA := (Below.refl w1.heap.size w1).alloc (Nat.le_refl _) (.cells #[.slice a1 m.kinds.length c1, .slice a2 m.funcs.length c2] 33)
  have bxA : F2 (w1.alloc (.cells #[.slice a1 m.kinds.length c1, .slice a2 m.funcs.length c2] 33)) w1.heap.size 33 (.slice a1 m.kinds.length c1) (.slice a2 m.funcs.length c2) := heap_alloc_new w1 _
  have hrA := (hr.below hbA).wide hbA.size
  have hb2 := hb1.trans (hbA.mono hb1.size)
  clear hm hr
  by_cases hev : ev = 0
  · subst hev
    have his := HIS.out rfl
    have HC0 : Hid (∀ e p, FlowSays m e p → ChkSays b e p) := fun e p h => HC.out e p (.inr ⟨rfl, h⟩)
    clear HIS HC
    go_wp2_with fail
    refine (fcheckm_any m _ _ _ hrA his).mono ?_
    rintro e w3 ⟨e3, p3, rfl, hf3, hb3⟩
    have FIN : Hid (ChkOut w w3 b (.returned (.tuple #[.int .i64 e3, .int .i64 p3]))) := ⟨e3, p3, rfl, HC0.out _ _ hf3, hb2.trans (hb3.mono hb2.size)⟩
    clear hf3 hb3 hb2 hrA bxA hbA hb1 HC0
    go_wp2
    go_ret2
    exact FIN.out
  · have FIN : Hid (ChkOut w (w1.alloc (.cells #[.slice a1 m.kinds.length c1, .slice a2 m.funcs.length c2] 33)) b (.returned (.tuple #[.int .i64 ev, .int .i64 av]))) := ⟨ev, av, rfl, HC.out _ _ (.inl ⟨hev, rfl, rfl⟩), hb2⟩
    clear hb2 hrA bxA hbA hb1 HC HIS
    go_wp2
    go_ret2
    exact FIN.out
end Go.Proofs.Ytjamgmbdilkbcaa

/- New, walked. -/
namespace Go.Proofs.Ytjamgmbdilkbcaa
open Go.RowKit

/-- nothing is held. -/
def noHeld : List Value := (List.replicate 48 [Value.bool false, .int .i64 0]).flatten
/-- a ledger in memory: its module, what is held. -/
structure LedR (w : World) (q : Nat) (mk mv : Value) (held : List Value) : Prop where
  b : w.heap[q]? = some (.cells (mk :: mv :: held).toArray 114 (0, 0))

/-- what New leaves. -/
def NewOut (w w' : World) (b : ByteArray) (r : Ending) : Prop :=
  (∃ e p, e ≠ 0 ∧ ChkSays b e p ∧ r = .returned (.tuple #[.pointer none, .int .i64 e]) ∧ Below w.heap.size w w') ∨
  (∃ p q mk mv, ChkSays b 0 p ∧ r = .returned (.tuple #[.pointer (some ⟨q, 0, none⟩), .int .i64 0]) ∧ w.heap.size ≤ q ∧ LedR w' q mk mv noHeld ∧ MdR w' q mk mv (Pu.decode b).1 ∧ Pu.isMd (Pu.decode b).1 = true ∧ AllGood (Pu.decode b).1 ∧ Below w.heap.size w w')

theorem zeroLedger : Try.zeroCells114.toList = .slice none 0 0 :: .slice none 0 0 :: noHeld := by kernel_rfl
theorem newCells (a b : Value) : ((Try.zeroCells114.setIfInBounds 0 a).setIfInBounds 1 b) = (a :: b :: noHeld).toArray := by
  apply Array.toList_inj.1
  rw [Array.toList_setIfInBounds, Array.toList_setIfInBounds, zeroLedger]
  rfl

set_option maxRecDepth 100000 in
set_option maxHeartbeats 2000000 in
theorem new_any (b : ByteArray) (w : World) (hs : b.size ≤ maxLen) :
    Calls Try.prog 32 #[.string b] w fun e w' => NewOut w w' b e := by
  go_enter Try.func32, Try.ntmps32
  go_wp2_with fail
  refine (readModule_any b _ hs).mono ?_
  rintro e w1 ⟨ho, hb1⟩
  obtain ⟨k, v, xs, rfl, hm, _, _⟩ := ho.one
  obtain ⟨a1, c1, rfl⟩ := owns_shape hm.hk
  obtain ⟨a2, c2, rfl⟩ := owns_shape hm.hv
  clear ho
  have HFIN : Hid (∀ p q mk mv w', ChkSays b 0 p → w.heap.size ≤ q → LedR w' q mk mv noHeld → MdR w' q mk mv (Pu.decode b).1 → Pu.isMd (Pu.decode b).1 = true → AllGood (Pu.decode b).1 → Below w.heap.size w w' → NewOut w w' b (.returned (.tuple #[.pointer (some ⟨q, 0, none⟩), .int .i64 0]))) := hid fun p q mk mv w' h1 h2 h3 h4 h5 h6 h7 => .inr ⟨p, q, mk, mv, h1, rfl, h2, h3, h4, h5, h6, h7⟩
  have HIS : Hid ((Pu.decode b).2.1 = 0 → Pu.isMd (Pu.decode b).1 = true) := fun h => dec_is h
  have HC : Hid (∀ e p, ((¬ (Pu.decode b).2.1 = 0 ∧ e = (Pu.decode b).2.1 ∧ p = (Pu.decode b).2.2) ∨ ((Pu.decode b).2.1 = 0 ∧ FlowSays (Pu.decode b).1 e p)) → ChkSays b e p) := fun e p h => h
  have hr := mdAt_reads hm
  generalize (Pu.decode b).1 = m at *
  generalize (Pu.decode b).2.1 = ev at *
  generalize (Pu.decode b).2.2 = av at *
  have hbA := (Below.refl w1.heap.size w1).alloc (Nat.le_refl _) (.cells #[.slice a1 m.kinds.length c1, .slice a2 m.funcs.length c2] 33)
  have bxA : F2 (w1.alloc (.cells #[.slice a1 m.kinds.length c1, .slice a2 m.funcs.length c2] 33)) w1.heap.size 33 (.slice a1 m.kinds.length c1) (.slice a2 m.funcs.length c2) := heap_alloc_new w1 _
  have hrA := (hr.below hbA).wide hbA.size
  have hb2 := hb1.trans (hbA.mono hb1.size)
  clear hm hr
  by_cases hev : ev = 0
  · subst hev
    have his := HIS.out rfl
    have HC0 : Hid (∀ e p, FlowSays m e p → ChkSays b e p) := fun e p h => HC.out e p (.inr ⟨rfl, h⟩)
    clear HIS HC
    go_wp2_with fail
    refine (fcheckm_any m _ _ _ hrA his).mono ?_
    rintro e w3 ⟨e3, p3, rfl, hf3, hb3⟩
    have bx3 : F2 w3 w1.heap.size 33 _ _ := (hb3.block _ bxA.lt).trans bxA
    have d0 := bx3.c0
    have d1 := bx3.c1
    by_cases he3 : e3 = 0
    · subst he3
      have hag : AllGood m := by
        rcases hf3 with ⟨h, _⟩ | ⟨_, _, h⟩
        · cases h
        · exact h
      have z1 := hb1.size
      have z3 := hb3.size
      simp only [World.size_alloc] at z3
      have al := (Below.refl w3.heap.size w3).alloc (Nat.le_refl _) (.cells ((Try.zeroCells114.setIfInBounds 0 (.slice a1 m.kinds.length c1)).setIfInBounds 1 (.slice a2 m.funcs.length c2)) 114)
      have hbF : Below w.heap.size w (w3.alloc (.cells ((Try.zeroCells114.setIfInBounds 0 (.slice a1 m.kinds.length c1)).setIfInBounds 1 (.slice a2 m.funcs.length c2)) 114)) := (hb2.trans (hb3.mono (by simp only [World.size_alloc]; omega))).trans (al.mono (by omega))
      have hm3 := ((hrA.below hb3).wide hb3.size).below al
      have FIN := hid (HFIN.out p3 w3.heap.size (.slice a1 m.kinds.length c1) (.slice a2 m.funcs.length c2) _ (HC0.out 0 p3 hf3) (by omega) ⟨by rw [heap_alloc_new, newCells]⟩ hm3 his hag hbF)
      clear hf3 hb3 hb2 hrA bxA hbA hb1 HC0 bx3 HFIN al hbF hm3 hag
      go_wp2_with fail
      go_ret2
      exact FIN.out
    · have FIN : Hid (NewOut w w3 b (.returned (.tuple #[.pointer none, .int .i64 e3]))) := .inl ⟨e3, p3, he3, HC0.out _ _ hf3, rfl, hb2.trans (hb3.mono hb2.size)⟩
      clear hf3 hb3 hb2 hrA bxA hbA hb1 HC0 bx3 HFIN
      go_wp2_with fail
      go_ret2
      exact FIN.out
  · have FIN : Hid (NewOut w (w1.alloc (.cells #[.slice a1 m.kinds.length c1, .slice a2 m.funcs.length c2] 33)) b (.returned (.tuple #[.pointer none, .int .i64 ev]))) := .inl ⟨ev, av, hev, HC.out _ _ (.inl ⟨hev, rfl, rfl⟩), rfl, hb2⟩
    clear hb2 hrA bxA hbA hb1 HC HIS HFIN
    go_wp2_with fail
    go_ret2
    exact FIN.out
end Go.Proofs.Ytjamgmbdilkbcaa

/- The machine in memory; a frame's put, take, held, keep. -/
namespace Go.Proofs.Ytjamgmbdilkbcaa
open Go.RowKit

/-- what the machine's cells hold, by their place. -/
structure Mc where
  ints : Nat → Int
  bools : Nat → Bool
  cv : Nat → Value
  cd : Nat → List (Int × Int)

namespace Mc
def fr (d : Nat) : Nat := 99 + d * 27
def setI (M : Mc) (i : Nat) (n : Int) : Mc := { M with ints := fun j => if j = i then n else M.ints j }
def setB (M : Mc) (i : Nat) (b : Bool) : Mc := { M with bools := fun j => if j = i then b else M.bools j }
def next (M : Mc) (d : Nat) : Int := M.ints (fr d + 1)
def hgt (M : Mc) (d : Nat) : Int := M.ints (fr d + 2)
def stk (M : Mc) (d i : Nat) : Int := M.ints (fr d + 3 + i)
def plc (M : Mc) (d i : Nat) : Int := M.ints (fr d + 19 + i)

def isI (i : Nat) : Prop := i < 320 ∧ 2 ≤ i ∧ ¬ (3 ≤ i ∧ i < 99 ∧ i % 2 = 1) ∧ ¬ (99 ≤ i ∧ i < 315 ∧ (i - 99) % 27 = 0) ∧ i ≠ 317
def isB (i : Nat) : Prop := (3 ≤ i ∧ i < 99 ∧ i % 2 = 1) ∨ i = 317

def cellAt (mk mv : Value) (M : Mc) (i : Nat) : Value :=
  if i = 0 then mk else if i = 1 then mv
  else if 3 ≤ i ∧ i < 99 ∧ i % 2 = 1 then .bool (M.bools i)
  else if 99 ≤ i ∧ i < 315 ∧ (i - 99) % 27 = 0 then M.cv ((i - 99) / 27)
  else if i = 317 then .bool (M.bools i)
  else .int .i64 (M.ints i)

theorem cellAt_I (mk mv : Value) (M : Mc) {i : Nat} (h : isI i) : cellAt mk mv M i = .int .i64 (M.ints i) := by
  obtain ⟨h1, h2, h3, h4, h5⟩ := h
  unfold cellAt
  rw [if_neg (by omega), if_neg (by omega), if_neg h3, if_neg h4, if_neg h5]
theorem cellAt_B (mk mv : Value) (M : Mc) {i : Nat} (h : isB i) : cellAt mk mv M i = .bool (M.bools i) := by
  unfold cellAt
  rcases h with h | h
  · rw [if_neg (by omega), if_neg (by omega), if_pos h]
  · rw [if_neg (by omega), if_neg (by omega), if_neg (by omega), if_neg (by omega), if_pos h]
theorem cellAt_C (mk mv : Value) (M : Mc) {d : Nat} (h : d < 8) : cellAt mk mv M (fr d) = M.cv d := by
  unfold cellAt fr
  rw [if_neg (by omega), if_neg (by omega), if_neg (by omega), if_pos (by omega), show (99 + d * 27 - 99) / 27 = d from by omega]
theorem isI_fr {d i : Nat} (h : d < 8) (h1 : 1 ≤ i) (h2 : i < 27) : isI (fr d + i) := by unfold isI fr; omega
end Mc
open Mc

/-- the machine at block r. -/
structure MR (w : World) (r : Nat) (mk mv : Value) (M : Mc) : Prop where
  ex : ∃ C : Array Value, w.heap[r]? = some (.cells C 168 (0, 0)) ∧ C.size = 320 ∧ ∀ i, i < 320 → C[i]? = some (cellAt mk mv M i)
  hh : ∀ d, d < 8 → 0 ≤ M.hgt d ∧ M.hgt d ≤ 16

section
variable {w w' : World} {r : Nat} {mk mv : Value} {M : Mc}
theorem MR.lt (h : MR w r mk mv M) : r < w.heap.size := by
  obtain ⟨C, hb, _⟩ := h.ex
  exact (Array.getElem?_eq_some_iff.1 hb).1
theorem MR.cell (h : MR w r mk mv M) (i : Nat) (hi : i < 320) : w.cell? ⟨r, i, none⟩ = some (cellAt mk mv M i) := by
  obtain ⟨C, hb, _, hc⟩ := h.ex
  unfold World.cell?
  simp only [hb]
  simpa using hc i hi
theorem MR.ci (h : MR w r mk mv M) {i : Nat} (hi : isI i) : w.cell? ⟨r, i, none⟩ = some (.int .i64 (M.ints i)) := by
  rw [h.cell i hi.1, cellAt_I _ _ _ hi]
theorem MR.cb (h : MR w r mk mv M) {i : Nat} (hi : isB i) : w.cell? ⟨r, i, none⟩ = some (.bool (M.bools i)) := by
  rw [h.cell i (by unfold isB at hi; omega), cellAt_B _ _ _ hi]
theorem MR.cc (h : MR w r mk mv M) {d : Nat} (hd : d < 8) : w.cell? ⟨r, fr d, none⟩ = some (M.cv d) := by
  rw [h.cell (fr d) (by unfold fr; omega), cellAt_C _ _ _ hd]
theorem MR.fz (h : MR w r mk mv M) (i : Nat) : w.frozen? ⟨r, i, none⟩ = false := by
  obtain ⟨C, hb, _⟩ := h.ex
  simp [World.frozen?, hb]
theorem MR.kept (h : MR w r mk mv M) {k : Option Nat} (hg : w.grownBy w' k) (hr : some r ≠ k) : MR w' r mk mv M := by
  obtain ⟨C, hb, h2⟩ := h.ex
  exact ⟨⟨C, (hg.block r h.lt hr).trans hb, h2⟩, h.hh⟩
theorem MR.alike (h : MR w r mk mv M) (ha : w'.heap = w.heap) : MR w' r mk mv M := by
  obtain ⟨C, hb, h2⟩ := h.ex
  exact ⟨⟨C, by rw [ha]; exact hb, h2⟩, h.hh⟩
theorem MR.setI (h : MR w r mk mv M) {i : Nat} (hi : isI i) (n : Int) (hn : ∀ d, d < 8 → i = fr d + 2 → 0 ≤ n ∧ n ≤ 16) : MR (w.setCell ⟨r, i, none⟩ (.int .i64 n)) r mk mv (M.setI i n) := by
  obtain ⟨C, hb, hs, hc⟩ := h.ex
  refine ⟨⟨C.setIfInBounds i (.int .i64 n), by simp [World.setCell, Array.getElem?_modify, hb], by simp [hs], fun j hj => ?_⟩, fun d hd => ?_⟩
  · by_cases hji : j = i
    · subst hji
      rw [Array.getElem?_setIfInBounds, if_pos rfl, if_pos (by omega), cellAt_I _ _ _ hi]
      simp [Mc.setI]
    · rw [Array.getElem?_setIfInBounds, if_neg (fun e => hji e.symm), hc j hj]
      unfold cellAt Mc.setI
      simp only [if_neg hji]
  · unfold Mc.hgt Mc.setI
    simp only
    by_cases hd2 : fr d + 2 = i
    · rw [if_pos hd2]; exact hn d hd hd2.symm
    · rw [if_neg hd2]; exact h.hh d hd
theorem MR.setB (h : MR w r mk mv M) {i : Nat} (hi : isB i) (b : Bool) : MR (w.setCell ⟨r, i, none⟩ (.bool b)) r mk mv (M.setB i b) := by
  obtain ⟨C, hb, hs, hc⟩ := h.ex
  refine ⟨⟨C.setIfInBounds i (.bool b), by simp [World.setCell, Array.getElem?_modify, hb], by simp [hs], fun j hj => ?_⟩, h.hh⟩
  by_cases hji : j = i
  · subst hji
    rw [Array.getElem?_setIfInBounds, if_pos rfl, if_pos (by omega), cellAt_B _ _ _ hi]
    simp [Mc.setB]
  · rw [Array.getElem?_setIfInBounds, if_neg (fun e => hji e.symm), hc j hj]
    unfold cellAt Mc.setB
    simp only [if_neg hji]
end

namespace Mc
def put (M : Mc) (d : Nat) (n : Int) : Mc := if M.hgt d < 16 then (M.setI (fr d + 3 + (M.hgt d).toNat) n).setI (fr d + 2) (M.hgt d + 1) else M
def top (M : Mc) (d : Nat) : Int := if M.hgt d < 1 then 0 else M.stk d (M.hgt d - 1).toNat
def pop (M : Mc) (d : Nat) : Mc := if M.hgt d < 1 then M else M.setI (fr d + 2) (M.hgt d - 1)
def keep (M : Mc) (d : Nat) (p n : Int) : Mc := if p < 0 ∨ 8 ≤ p then M else M.setI (fr d + 19 + p.toNat) n
def heldAt (M : Mc) (d : Nat) (p : Int) : Int := if p < 0 ∨ 8 ≤ p then 0 else M.plc d p.toNat
end Mc

/-- what a call on the machine leaves. -/
def MDone (w w' : World) (r : Nat) (mk mv : Value) (M : Mc) (e : Ending) : Prop := e = .returned (.tuple #[]) ∧ MR w' r mk mv M ∧ w.grownBy w' (some r)
theorem MDone.alike {w w1 w' : World} {r : Nat} {mk mv : Value} {M : Mc} {e : Ending} (h : MDone w w1 r mk mv M e) (ha : Alike w1 w') : MDone w w' r mk mv M e :=
  ⟨h.1, h.2.1.alike ha.1, grown_alike h.2.2 ha⟩

set_option maxRecDepth 100000 in
set_option maxHeartbeats 1000000 in
theorem mput_any (r d : Nat) (n : Int) (mk mv : Value) (M : Mc) (w : World) (h : MR w r mk mv M) (hd : d < 8) :
    Calls Try.prog 142 #[.pointer (some ⟨r, fr d, none⟩), .int .i64 n] w fun e w' => MDone w w' r mk mv (M.put d n) e := by
  have hh := h.hh d hd
  obtain ⟨o, ho⟩ : ∃ o, o = fr d := ⟨_, rfl⟩
  have c2 := h.ci (isI_fr (i := 2) hd (by omega) (by omega))
  have z2 := h.fz (fr d + 2)
  have e2 : M.ints (fr d + 2) = M.hgt d := rfl
  rw [e2, ← ho] at c2
  rw [← ho] at z2
  by_cases h16 : M.hgt d < 16
  · obtain ⟨k, hk⟩ : ∃ k : Nat, M.hgt d = k := ⟨(M.hgt d).toNat, by omega⟩
    have e : M.put d n = (M.setI (fr d + 3 + k) n).setI (fr d + 2) ((k : Int) + 1) := by
      unfold Mc.put; rw [if_pos h16, hk]; rfl
    rw [e]
    have hk16 : k < 16 := by omega
    have cs := h.ci (isI_fr (i := 3 + k) hd (by omega) (by omega))
    rw [← Nat.add_assoc, ← ho] at cs
    have zs := h.fz (fr d + 3 + k)
    have h1 := h.setI (i := fr d + 3 + k) (by have := isI_fr (i := 3 + k) hd (by omega) (by omega); rwa [← Nat.add_assoc] at this) n (fun d' hd' he => by unfold fr at he; omega)
    have d2 := h1.ci (isI_fr (i := 2) hd (by omega) (by omega))
    have y2 := h1.fz (fr d + 2)
    have e3 : (M.setI (fr d + 3 + k) n).ints (fr d + 2) = M.hgt d := by unfold Mc.setI Mc.hgt; simp only; rw [if_neg (by unfold fr; omega)]
    have h2 := h1.setI (i := fr d + 2) (isI_fr hd (by omega) (by omega)) ((k : Int) + 1) (fun _ _ _ => by omega)
    have FIN : Hid (MDone w ((w.setCell ⟨r, fr d + 3 + k, none⟩ (.int .i64 n)).setCell ⟨r, fr d + 2, none⟩ (.int .i64 ((k : Int) + 1))) r mk mv ((M.setI (fr d + 3 + k) n).setI (fr d + 2) ((k : Int) + 1)) (.returned (.tuple #[]))) :=
      ⟨rfl, h2, grown_trans (grown_set w r _ _) (grown_set _ r _ _)⟩
    rw [e3] at d2
    rw [hk] at c2 d2
    obtain ⟨ML, hML⟩ : ∃ ML, ML = (M.setI (fr d + 3 + k) n).setI (fr d + 2) ((k : Int) + 1) := ⟨_, rfl⟩
    rw [← hML] at FIN ⊢
    rw [← ho] at zs d2 y2 FIN ⊢
    clear h h1 h2 hh hML e e2 e3 hk h16 ho
    go_enter Try.func142, Try.ntmps142
    go_wp2
    go_region
    go_wp2
    go_end0
    exact FIN.out.alike ⟨rfl, rfl, rfl, rfl⟩
  · have e : M.put d n = M := by unfold Mc.put; rw [if_neg h16]
    rw [e]
    have FIN : Hid (MDone w w r mk mv M (.returned (.tuple #[]))) := ⟨rfl, h, ⟨rfl, rfl, rfl, Nat.le_refl _, fun _ _ _ => rfl⟩⟩
    have hk : M.hgt d = 16 := by omega
    rw [hk] at c2
    rw [← ho]
    clear h hh e e2 hk h16 ho
    go_enter Try.func142, Try.ntmps142
    go_wp2
    refine bodyPost_ret (results_none rfl _ _ _) rfl ?_
    exact FIN.out
end Go.Proofs.Ytjamgmbdilkbcaa
