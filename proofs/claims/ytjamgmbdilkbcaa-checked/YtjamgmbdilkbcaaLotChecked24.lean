import Derived.Test.YtjamgmbdilkbcaaLotChecked13
import Derived.Test.YtjamgmbdilkbcaaLotChecked23
import Derived.Test.YtjamgmbdilkbcaaLotChecked21
import Derived.Test.YtjamgmbdilkbcaaLotChecked06
/- Held.decode. -/
namespace Go.Proofs.Ytjamgmbdilkbcaa
open Go.RowKit

theorem dec_is {b : ByteArray} (h : (Pu.decode b).2.1 = 0) : Pu.isMd (Pu.decode b).1 = true := by
  have := Pu.canon h
  unfold Pu.encode at this
  cases hm : Pu.isMd (Pu.decode b).1 with
  | true => rfl
  | false => rw [hm] at this; simp at this

theorem is_small {m : Pu.Md} (h : Pu.isMd m = true) : Small m ∧ m.funcs.length ≤ 8 := by
  simp only [Pu.isMd, Bool.and_eq_true, decide_eq_true_eq, List.all_eq_true] at h
  obtain ⟨h1, h2, h3, h4⟩ := h
  simp only [Pu.isList, Bool.and_eq_true, decide_eq_true_eq] at h1
  refine ⟨⟨by omega, by omega, fun f hf => ?_⟩, h3⟩
  have hh := h4 f hf
  simp only [Pu.isFn, Pu.isList, Bool.and_eq_true, decide_eq_true_eq] at hh
  omega

theorem Hd.le {w : World} {B ph : Nat} {S : Nat → Prop} {K K' : Nat} (h : Hd w B ph S K) (hk : K ≤ K') : Hd w B ph S K' := by
  obtain ⟨N, vi, vc, vf, ei, ec, ef, h, g, k1, k2, k3⟩ := h
  exact ⟨N, vi, vc, vf, ei, ec, ef, h, g, by omega, by omega, by omega⟩

theorem md_nil (w : World) (B : Nat) : MdAt w B ⟨[], []⟩ (.slice none 0 0) (.slice none 0 0) [] :=
  ⟨World.ownsRow_nil w B _ _, World.ownsRow_nil w B _ _, trivial, by simp [bl, fc, Value.ownBlock]⟩

/-- what Decode hands out, told once. -/
theorem DecOut.one {w w' : World} {b : ByteArray} {e : Ending} (h : DecOut w w' b e) : ∃ (k v : Value) (xs : List FV), e = .returned (.tuple #[.agg #[k, v], .int .i64 (Pu.decode b).2.1, .int .i64 (Pu.decode b).2.2]) ∧ MdAt w' w.heap.size (Pu.decode b).1 k v xs ∧ Small (Pu.decode b).1 ∧ (Pu.decode b).1.funcs.length ≤ 8 := by
  rcases h with ⟨k, v, xs, he, hm, hd⟩ | ⟨he, hd, _⟩
  · have := is_small (dec_is (b := b) (by rw [hd]))
    exact ⟨k, v, xs, by rw [he, hd], hm, this⟩
  · refine ⟨_, _, [], he, by rw [hd]; exact md_nil _ _, ?_⟩
    rw [hd]
    simp [Small]

theorem RDecOut.one {w' : World} {b : ByteArray} {e : Ending} (h : RDecOut w' b e) : ∃ (k v : Value), e = .returned (.tuple #[.agg #[k, v], .int .i64 (Pu.decode b).2.1, .int .i64 (Pu.decode b).2.2]) ∧ MdR w' w'.heap.size k v (Pu.decode b).1 := by
  rcases h with ⟨k, v, he, hm, hd⟩ | ⟨he, hd, _⟩
  · exact ⟨k, v, by rw [he, hd], hm⟩
  · exact ⟨_, _, he, by rw [hd]; exact mdAt_reads (md_nil w' 0)⟩

theorem MdAt.below {w w' : World} {B : Nat} {m : Pu.Md} {k v : Value} {xs : List FV} (h : MdAt w B m k v xs) (hb : Below w.heap.size w w') : MdAt w' B m k v xs :=
  h.none ⟨hb.os, hb.tape, hb.output, hb.size, fun k hk _ => hb.block k hk⟩

theorem MdAt.ge {w : World} {B : Nat} {m : Pu.Md} {k v : Value} {xs : List FV} (h : MdAt w B m k v xs) : ∀ j ∈ bl (k :: v :: fc xs), B ≤ j := by
  intro j hj
  rw [bl_cons, bl_cons, List.mem_append, List.mem_append, ← rows_bl _ _ h.hf.len] at hj
  rcases hj with hj | hj | hj
  · exact (h.hk.lt j (by simpa using hj)).1
  · exact (h.hv.lt j (by simpa using hj)).1
  · obtain ⟨r, hr, hrj⟩ := List.mem_flatMap.1 hj
    exact ((rows_own h.hf r hr).1.lt j (by simpa using hrj)).1

set_option maxRecDepth 100000 in
set_option maxHeartbeats 2000000 in
theorem hdecode_any (b : ByteArray) (B ph K : Nat) (S : Nat → Prop) (w : World) (hd : Hd w B ph S K) (hs : b.size ≤ maxLen) (hK : K ≤ 900000000) :
    Calls Try.prog 11 #[.pointer (some ⟨ph, 0, none⟩), .string b] w fun e w' => e = .returned (.bool true) ∧ (∃ S', Hd w' B ph S' (K + 136)) ∧ Below B w w' := by
  have hBp := hd.lt
  go_enter Try.func11, Try.ntmps11
  go_wp2_with fail
  refine (decode_any b _ hs).mono ?_
  rintro e w1 ⟨ho, hb1⟩
  obtain ⟨k, v, xs, rfl, hm, hsm, hf8⟩ := ho.one
  obtain ⟨a1, c1, rfl⟩ := owns_shape hm.hk
  obtain ⟨a2, c2, rfl⟩ := owns_shape hm.hv
  clear ho
  obtain ⟨m, hm0⟩ : ∃ m, m = (Pu.decode b).1 := ⟨_, rfl⟩
  obtain ⟨ev, hev⟩ : ∃ ev, ev = (Pu.decode b).2.1 := ⟨_, rfl⟩
  obtain ⟨av, hav⟩ : ∃ av, av = (Pu.decode b).2.2 := ⟨_, rfl⟩
  rw [← hm0] at hm hsm hf8 ⊢
  rw [← hev, ← hav]
  have HE : Hid _ := And.intro hm0 (And.intro hev hav)
  clear hm0 hev hav
  have hba := (Below.refl w1.heap.size w1).alloc (Nat.le_refl _) (.cells #[.slice a1 m.kinds.length c1, .slice a2 m.funcs.length c2] 33)
  have bxa : F2 (w1.alloc (.cells #[.slice a1 m.kinds.length c1, .slice a2 m.funcs.length c2] 33)) w1.heap.size 33 (.slice a1 m.kinds.length c1) (.slice a2 m.funcs.length c2) := heap_alloc_new w1 _
  have hma := hm.below hba
  have hb2 := hb1.trans (hba.mono hb1.size)
  have z1 := hb1.size
  clear hm hba hb1
  go_wp2_with fail
  refine (rdecode_any b _ hs).mono ?_
  rintro e w3 ⟨ho, hb⟩
  obtain ⟨k', v', rfl, hr⟩ := ho.one
  rw [← HE.out.1] at hr
  rw [← HE.out.2.1, ← HE.out.2.2]
  obtain ⟨a1', c1', rfl⟩ := hr.k.shape
  obtain ⟨a2', c2', rfl⟩ : ∃ a c, v' = .slice a m.funcs.length c := by
    obtain ⟨ao, cap, _, _, hv, _⟩ := hr.v
    exact ⟨ao, cap, hv⟩
  have z3 := hb.size
  have bx3 : F2 w3 w1.heap.size 33 (.slice a1 m.kinds.length c1) (.slice a2 m.funcs.length c2) := (hb.block w1.heap.size (by simp)).trans bxa
  have hm3 := hma.below hb
  have hb3 := hb2.trans (hb.mono (by simp only [World.size_alloc]; omega))
  clear ho hma hb bxa hb2 HE
  have hba := (Below.refl w3.heap.size w3).alloc (Nat.le_refl _) (.cells #[.slice a1' m.kinds.length c1', .slice a2' m.funcs.length c2'] 33)
  have bx4 : F2 (w3.alloc (.cells #[.slice a1' m.kinds.length c1', .slice a2' m.funcs.length c2'] 33)) w1.heap.size 33 (.slice a1 m.kinds.length c1) (.slice a2 m.funcs.length c2) := (hba.block w1.heap.size bx3.lt).trans bx3
  have hm4 := hm3.below hba
  have hr4 := (hr.below hba).wide (B' := (w3.alloc (.cells #[.slice a1' m.kinds.length c1', .slice a2' m.funcs.length c2'] 33)).heap.size) (by simp)
  have hb4 := hb3.trans (hba.mono (B' := w.heap.size) (by simp only [World.size_alloc] at z3; omega))
  have hq4 := mdAt_reads hm4
  have q0 := bx4.c0
  have q1 := bx4.c1
  clear hm3 bx3 hb3 hr hba
  go_wp2_with fail
  refine (sameModule_same m _ _ _ _ _ hq4 hr4).mono ?_
  rintro e w5 ⟨rfl, hb⟩
  have z5 := hb.size
  simp only [World.size_alloc] at z3 z5
  have bx5 : F2 w5 w1.heap.size 33 (.slice a1 m.kinds.length c1) (.slice a2 m.funcs.length c2) := (hb.block w1.heap.size (by simp only [World.size_alloc]; omega)).trans bx4
  have hm5 := hm4.below hb
  have hb5 := hb4.trans (hb.mono (by simp only [World.size_alloc]; omega))
  have hd5 := (hd.more (S' := fun k => k < w.heap.size) (fun k h _ => h)).below hb5
  have hge := hm5.ge
  clear hd q0 q1 bx4 hm4 hr4 hq4 hb hb4
  have q0 := bx5.c0
  have q1 := bx5.c1
  go_wp2_with fail
  clear q0 q1
  refine (hmodule_any B ph K _ m _ _ xs w5 hd5 (hm5.base (by omega)) hsm (fun j hj h => by have := hge j hj; omega) (by omega)).mono ?_
  rintro e w6 ⟨rfl, ⟨S6, hd6⟩, hb6⟩
  have hb7 := (hb5.mono (B' := B) (by omega)).trans hb6
  have hd7 : ∃ S', Hd w6 B ph S' (K + 136) := ⟨S6, hd6.le (by omega)⟩
  have HD7 : Hid _ := hd7
  clear hd6 hb6 hb5 hd5 hm5 hge bx5 hd7 hsm
  go_wp2_with fail
  refine (num_any ev _).mono ?_
  rintro e w7 ⟨rfl, rfl⟩
  go_wp2
  go_ret
  exact ⟨rfl, HD7.out, hb7⟩
end Go.Proofs.Ytjamgmbdilkbcaa

/- CheckModule, Check. -/
namespace Go.Proofs.Ytjamgmbdilkbcaa
open Go.RowKit

theorem isMd_kinds {m : Pu.Md} (h : Pu.isMd m = true) : KindsOk m := by
  simp only [Pu.isMd, Bool.and_eq_true, decide_eq_true_eq, List.all_eq_true] at h
  obtain ⟨h1, _⟩ := h
  simp only [Pu.isList, Bool.and_eq_true, decide_eq_true_eq, List.all_eq_true] at h1
  intro k hk
  exact h1.2 k hk

theorem isMd_fn {m : Pu.Md} (h : Pu.isMd m = true) {f : Pu.Fn} (hf : f ∈ m.funcs) : FnOk m f := by
  simp only [Pu.isMd, Bool.and_eq_true, decide_eq_true_eq, List.all_eq_true] at h
  obtain ⟨_, _, _, h4⟩ := h
  have hh := h4 f hf
  simp only [Pu.isFn, Pu.isList, Pu.isCode, Bool.and_eq_true, decide_eq_true_eq, List.all_eq_true] at hh
  obtain ⟨⟨p1, _⟩, ⟨r1, _⟩, ⟨l1, _⟩, c1, c2, c3⟩ := hh
  have hi : ∀ i, i < f.code.length → Pu.isInstr m.kinds.length m.funcs.length ((f.params.length : Int) + (f.locals.length : Int)) f.code.length (f.code.getD i (0, 0)) = true := fun i hi => by
    refine c3 _ ?_
    rw [List.getD_eq_getElem?_getD, List.getElem?_eq_getElem hi]
    exact List.getElem_mem hi
  refine ⟨by unfold Fl.places; rw [List.length_append]; omega, by omega, by omega, fun i hil => ?_, fun i hil hop => ?_⟩
  · have hx := hi i hil
    generalize f.code.getD i (0, 0) = x at *
    simp only [Pu.isInstr, Bool.and_eq_true, decide_eq_true_eq] at hx
    obtain ⟨⟨⟨x1, x2⟩, x3⟩, x4⟩ := hx
    refine ⟨⟨x1, x2⟩, fun hop => ?_, fun hop => ?_⟩
    · unfold Pu.argLo at x3
      unfold Pu.argHi at x4
      rw [if_neg (by omega)] at x3
      rw [if_neg (by omega), if_neg (by omega), if_pos hop] at x4
      unfold Fl.places
      rw [List.length_append]
      omega
    · unfold Pu.argLo at x3
      unfold Pu.argHi at x4
      rw [if_neg (by omega)] at x3
      rw [if_neg (by omega), if_neg (by omega), if_neg (by omega), if_neg (by omega), if_pos hop] at x4
      omega
  · have hx := hi i hil
    generalize f.code.getD i (0, 0) = x at *
    simp only [Pu.isInstr, Bool.and_eq_true, decide_eq_true_eq] at hx
    obtain ⟨⟨⟨x1, x2⟩, x3⟩, x4⟩ := hx
    unfold Pu.argLo at x3
    rw [if_neg (by omega)] at x3
    exact x3

/-- the first function that is not sound. -/
def FirstBad (m : Pu.Md) (i : Nat) : Prop := i < m.funcs.length ∧ ¬ Fl.Sound m (m.funcs.getD i ⟨[], [], [], []⟩) ∧ ∀ j, j < i → Fl.Sound m (m.funcs.getD j ⟨[], [], [], []⟩)
def AllGood (m : Pu.Md) : Prop := ∀ j, j < m.funcs.length → Fl.Sound m (m.funcs.getD j ⟨[], [], [], []⟩)

/-- an error and a number. -/
def FlowSays (m : Pu.Md) (e p : Int) : Prop := (e = 3 ∧ ∃ i : Nat, p = i ∧ FirstBad m i) ∨ (e = 0 ∧ p = 0 ∧ AllGood m)

theorem FlowSays.one {m : Pu.Md} {e p e' p' : Int} (h : FlowSays m e p) (h' : FlowSays m e' p') : e = e' ∧ p = p' := by
  rcases h with ⟨rfl, i, rfl, h1, h2, h3⟩ | ⟨rfl, rfl, h⟩
  · rcases h' with ⟨rfl, j, rfl, k1, k2, k3⟩ | ⟨rfl, rfl, k⟩
    · refine ⟨rfl, ?_⟩
      by_cases hij : i < j
      · exact absurd (k3 i hij) h2
      · by_cases hji : j < i
        · exact absurd (h3 j hji) k2
        · omega
    · exact absurd (k i h1) h2
  · rcases h' with ⟨rfl, j, rfl, k1, k2, k3⟩ | ⟨rfl, rfl, k⟩
    · exact absurd (h j k1) k2
    · exact ⟨rfl, rfl⟩

def FlowOut (w w' : World) (m : Pu.Md) (r : Ending) : Prop := ∃ e p, r = .returned (.tuple #[.int .i64 e, .int .i64 p]) ∧ FlowSays m e p ∧ Below w.heap.size w w'

set_option maxRecDepth 100000 in
set_option maxHeartbeats 2000000 in
theorem fcheckm_any (m : Pu.Md) (mk mv : Value) (w : World) (hm : MdR w w.heap.size mk mv m) (h : Pu.isMd m = true) :
    Calls Try.prog 60 #[.agg #[mk, mv]] w fun e w' => FlowOut w w' m e := by
  have hsm := (is_small h).2
  obtain ⟨a1, c1, rfl⟩ := hm.k.shape
  obtain ⟨ao, cap, b, off, hvv, h1, h2⟩ := hm.v
  subst hvv
  have H1 := hid h1
  have H2 := hid h2
  have HM := hid hm
  have HI := hid h
  have bl0 := (Below.refl w.heap.size w).alloc (Nat.le_refl _) (.cells #[.slice a1 m.kinds.length c1, .slice ao m.funcs.length cap] 33)
  have mb0 : F2 (w.alloc (.cells #[.slice a1 m.kinds.length c1, .slice ao m.funcs.length cap] 33)) w.heap.size 33 (.slice a1 m.kinds.length c1) (.slice ao m.funcs.length cap) := heap_alloc_new w _
  clear h1 h2 hm h
  go_enter Try.func60, Try.ntmps60
  go_wp2
  go_loopw [4] (fun i wr => ∃ k : Nat, k ≤ m.funcs.length ∧ i = .int .i64 k ∧ (∀ j, j < k → Fl.Sound m (m.funcs.getD j ⟨[], [], [], []⟩)) ∧ F2 wr w.heap.size 33 (.slice a1 m.kinds.length c1) (.slice ao m.funcs.length cap) ∧ Below w.heap.size w wr) (fun i _ => m.funcs.length - (intOf i).toNat)
  case atStart => exact ⟨0, Nat.zero_le _, rfl, fun j hj => by omega, mb0, bl0⟩
  case round =>
    obtain ⟨k, hk, rfl, hg, mb, bl⟩ := hrel
    clear mb0 bl0
    have HG := hid hg
    clear hg
    have d0 := mb.c0
    have d1 := mb.c1
    have l0 := mb.lt
    by_cases hlt : k < m.funcs.length
    · obtain ⟨rfl, hbB⟩ := H1.out (by omega)
      obtain ⟨y, g0, g1, g2, g3, hy⟩ := H2.out k hlt
      obtain ⟨x1, y1, x2, y2, x3, y3, x4, y4, rfl⟩ := hy.shape
      have k0 := (bl.cell (p := ⟨b, off + k * 4, none⟩) hbB).trans g0
      have k1 := (bl.cell (p := ⟨b, off + k * 4 + 1, none⟩) hbB).trans g1
      have k2 := (bl.cell (p := ⟨b, off + k * 4 + 2, none⟩) hbB).trans g2
      have k3 := (bl.cell (p := ⟨b, off + k * 4 + 3, none⟩) hbB).trans g3
      have lb : b < wr.heap.size := Nat.lt_of_lt_of_le hbB bl.size
      have hmem : m.funcs.getD k ⟨[], [], [], []⟩ ∈ m.funcs := by rw [List.getD_eq_getElem?_getD, List.getElem?_eq_getElem hlt]; exact List.getElem_mem hlt
      have fo := isMd_fn HI.out hmem
      have HGK : Hid (Fl.Sound m (m.funcs.getD k ⟨[], [], [], []⟩) → ∀ j, j < k + 1 → Fl.Sound m (m.funcs.getD j ⟨[], [], [], []⟩)) := fun hs j hj => by
        by_cases hjk : j < k
        · exact HG.out j hjk
        · rw [show j = k from by omega]; exact hs
      have HFB : Hid (¬ Fl.Sound m (m.funcs.getD k ⟨[], [], [], []⟩) → FirstBad m k) := fun hs => ⟨hlt, hs, HG.out⟩
      generalize m.funcs.getD k ⟨[], [], [], []⟩ = f at *
      simp only at k0 k1 k2 k3
      clear g0 g1 g2 g3 hmem HG
      have hmr : MdR wr.drew wr.drew.heap.size _ _ m := ((HM.out.below bl).wide bl.size).below ((Below.refl _ _).drew)
      have hfr : FnR wr.drew wr.drew.heap.size _ f := ((hy.below bl).wide bl.size).below ((Below.refl _ _).drew)
      go_wp2_with fail
      go_region_held3 (fun w' => w'.cell? ⟨w.heap.size, 0, none⟩ = some (.slice a1 m.kinds.length c1) ∧ w'.cell? ⟨w.heap.size, 1, none⟩ = some (.slice (some ⟨b, off, none⟩) m.funcs.length cap) ∧ w'.cell? ⟨b, off + k * 4, none⟩ = some (.slice x1 f.params.length y1) ∧ w'.cell? ⟨b, off + k * 4 + 1, none⟩ = some (.slice x2 f.results.length y2) ∧ w'.cell? ⟨b, off + k * 4 + 2, none⟩ = some (.slice x3 f.locals.length y3) ∧ w'.cell? ⟨b, off + k * 4 + 3, none⟩ = some (.slice x4 f.code.length y4))
        (first | exact ⟨d0, d1, k0, k1, k2, k3⟩ | exact ⟨(hb3.cell (p := ⟨w.heap.size, 0, none⟩) l0).trans d0, (hb3.cell (p := ⟨w.heap.size, 1, none⟩) l0).trans d1, (hb3.cell (p := ⟨b, off + k * 4, none⟩) lb).trans k0, (hb3.cell (p := ⟨b, off + k * 4 + 1, none⟩) lb).trans k1, (hb3.cell (p := ⟨b, off + k * 4 + 2, none⟩) lb).trans k2, (hb3.cell (p := ⟨b, off + k * 4 + 3, none⟩) lb).trans k3⟩)
        ((go_at_call 51; refine (fsound_any m f _ _ _ _ hmr hfr (isMd_kinds HI.out) fo).mono ?_; rintro e w3 ⟨r, rfl, hr, hb3⟩))
      have hbw : Below wr.heap.size wr w3 := ((Below.refl _ _).drew).trans hb3
      have bl3 : Below w.heap.size w w3 := bl.trans (hbw.mono bl.size)
      have mb3 : F2 w3 w.heap.size 33 _ _ := (hbw.block _ mb.lt).trans mb
      clear hb3 hbw hmr hfr fo hy k0 k1 k2 k3 d0 d1 mb bl
      cases r with
      | true =>
        have HG2 := hid (HGK.out (hr.1 rfl))
        clear hr HGK HFB
        go_wp2
        go_roundw
        case rel => exact ⟨k + 1, hlt, by go_num, HG2.out, mb3, bl3⟩
        case measure => simp [intOf]; omega
      | false =>
        have hns : ¬ Fl.Sound m f := fun hs => by have := hr.2 hs; simp at this
        have FIN : Hid (FlowOut w w3 m (.returned (.tuple #[.int .i64 3, .int .i64 k]))) := ⟨3, k, rfl, .inl ⟨rfl, k, rfl, HFB.out hns⟩, bl3⟩
        clear hr HGK HFB hns mb3
        go_wp2
        go_ret2
        exact FIN.out
    · have FIN : Hid (FlowOut w wr m (.returned (.tuple #[.int .i64 0, .int .i64 0]))) := ⟨0, 0, rfl, .inr ⟨rfl, rfl, fun j hj => HG.out j (by omega)⟩, bl⟩
      go_wp2
      go_ret2
      exact FIN.out

/-- what Check says. -/
def ChkSays (b : ByteArray) (e p : Int) : Prop := (¬ (Pu.decode b).2.1 = 0 ∧ e = (Pu.decode b).2.1 ∧ p = (Pu.decode b).2.2) ∨ ((Pu.decode b).2.1 = 0 ∧ FlowSays (Pu.decode b).1 e p)

theorem ChkSays.one {b : ByteArray} {e p e' p' : Int} (h : ChkSays b e p) (h' : ChkSays b e' p') : e = e' ∧ p = p' := by
  rcases h with ⟨h1, h2, h3⟩ | ⟨h1, h2⟩
  · rcases h' with ⟨_, k2, k3⟩ | ⟨k1, _⟩
    · exact ⟨by rw [h2, k2], by rw [h3, k3]⟩
    · exact absurd k1 h1
  · rcases h' with ⟨k1, _⟩ | ⟨_, k2⟩
    · exact absurd h1 k1
    · exact h2.one k2

def ChkOut (w w' : World) (b : ByteArray) (r : Ending) : Prop := ∃ e p, r = .returned (.tuple #[.int .i64 e, .int .i64 p]) ∧ ChkSays b e p ∧ Below w.heap.size w w'

set_option maxRecDepth 100000 in
set_option maxHeartbeats 2000000 in
theorem fcheck_any (b : ByteArray) (w : World) (hs : b.size ≤ maxLen) :
    Calls Try.prog 31 #[.string b] w fun e w' => ChkOut w w' b e := by
  go_enter Try.func31, Try.ntmps31
  go_wp2_with fail
  refine (readModule_any b _ hs).mono ?_
  rintro e w1 ⟨ho, hb1⟩
  obtain ⟨k, v, xs, rfl, hm, _, _⟩ := ho.one
  obtain ⟨a1, c1, rfl⟩ := owns_shape hm.hk
  obtain ⟨a2, c2, rfl⟩ := owns_shape hm.hv
  clear ho
  have HIS : Hid ((Pu.decode b).2.1 = 0 → Pu.isMd (Pu.decode b).1 = true) := fun h => dec_is h
  have HC : Hid (∀ e p, ((¬ (Pu.decode b).2.1 = 0 ∧ e = (Pu.decode b).2.1 ∧ p = (Pu.decode b).2.2) ∨ ((Pu.decode b).2.1 = 0 ∧ FlowSays (Pu.decode b).1 e p)) → ChkSays b e p) := fun e p h => h
  have hr := mdAt_reads hm
  generalize (Pu.decode b).1 = m at *
  generalize (Pu.decode b).2.1 = ev at *
  generalize (Pu.decode b).2.2 = av at *
  have hbA := (Below.refl w1.heap.size w1).alloc (Nat.le_refl _) (.cells #[.slice a1 m.kinds.length c1, .slice a2 m.funcs.length c2] 33)
  have bxA : F2 (w1.alloc (.cells #[.slice a1 m.kinds.length c1, .slice a2 m.funcs.length c2] 33)) w1.heap.size 33 (.slice a1 m.kinds.length c1) (.slice a2 m.funcs.length c2) := heap_alloc_new w1 _
  have hrA := (hr.below hbA).wide hbA.size
  have hb2 := hb1.trans (hbA.mono hb1.size)
  clear hm hr
  by_cases hev : ev = 0
  · subst hev
    have his := HIS.out rfl
    have HC0 : Hid (∀ e p, FlowSays m e p → ChkSays b e p) := fun e p h => HC.out e p (.inr ⟨rfl, h⟩)
    clear HIS HC
    go_wp2_with fail
    refine (fcheckm_any m _ _ _ hrA his).mono ?_
    rintro e w3 ⟨e3, p3, rfl, hf3, hb3⟩
    have FIN : Hid (ChkOut w w3 b (.returned (.tuple #[.int .i64 e3, .int .i64 p3]))) := ⟨e3, p3, rfl, HC0.out _ _ hf3, hb2.trans (hb3.mono hb2.size)⟩
    clear hf3 hb3 hb2 hrA bxA hbA hb1 HC0
    go_wp2
    go_ret2
    exact FIN.out
  · have FIN : Hid (ChkOut w (w1.alloc (.cells #[.slice a1 m.kinds.length c1, .slice a2 m.funcs.length c2] 33)) b (.returned (.tuple #[.int .i64 ev, .int .i64 av]))) := ⟨ev, av, rfl, HC.out _ _ (.inl ⟨hev, rfl, rfl⟩), hb2⟩
    clear hb2 hrA bxA hbA hb1 HC HIS
    go_wp2
    go_ret2
    exact FIN.out
end Go.Proofs.Ytjamgmbdilkbcaa

/- Plain functions: the document's Encode, which writes first and reads what it wrote. -/
namespace Go.Proofs.Ytjamgmbdilkbcaa
namespace Pu

/-- may a number be a byte? -/
def isB (x : Int) : Bool := decide (0 ≤ x) && decide (x ≤ 255)
def smallL (l : List Int) : Bool := l.all isB && decide (l.length < 256)
def flat (l : List (Int × Int)) : List Int := l.flatMap fun x => [x.1, x.2]
def smallF (f : Fn) : Bool := smallL f.params && smallL f.results && smallL f.locals && decide (f.code.length ≤ 255) && (flat f.code).all isB
def smallM (m : Md) : Bool := smallL m.kinds && decide (m.funcs.length ≤ 255) && m.funcs.all smallF

/-- is what was written a module's? -/
def wholeBad (b : ByteArray) : Bool := (atEnd b (module b).2).2

def renc (m : Md) : List UInt8 × Int :=
  if smallM m = true then (if wholeBad ⟨(wMd m).toArray⟩ = true then ([], 2) else if 1500 < (wMd m).length then ([], 1) else (wMd m, 0)) else ([], 2)

theorem byte_inj {x y : Int} (hx : isB x = true) (hy : isB y = true) (h : byte x = byte y) : x = y := by
  simp only [isB, Bool.and_eq_true, decide_eq_true_eq] at hx hy
  have h1 := u8_byte x hx.1 hx.2
  have h2 := u8_byte y hy.1 hy.2
  rw [h] at h1
  omega

theorem bytes_inj : ∀ {l l' : List Int} {t t' : List UInt8}, l.length = l'.length → l.all isB = true → l'.all isB = true → l.map byte ++ t = l'.map byte ++ t' → l = l' ∧ t = t'
  | [], [], _, _, _, _, _, h => ⟨rfl, by simpa using h⟩
  | x :: l, y :: l', t, t', hl, h1, h2, h => by
    simp only [List.all_cons, Bool.and_eq_true] at h1 h2
    simp only [List.map_cons, List.cons_append, List.cons.injEq] at h
    obtain ⟨e, e'⟩ := bytes_inj (by simpa using hl) h1.2 h2.2 h.2
    exact ⟨by rw [byte_inj h1.1 h2.1 h.1, e], e'⟩
  | [], _ :: _, _, _, hl, _, _, _ => by simp at hl
  | _ :: _, [], _, _, hl, _, _, _ => by simp at hl

theorem len_isB {n : Nat} (h : n < 256) : isB (n : Int) = true := by
  simp only [isB, Bool.and_eq_true, decide_eq_true_eq]
  omega

theorem wList_inj {l l' : List Int} {t t' : List UInt8} (h1 : smallL l = true) (h2 : smallL l' = true) (h : wList l ++ t = wList l' ++ t') : l = l' ∧ t = t' := by
  simp only [smallL, Bool.and_eq_true, decide_eq_true_eq] at h1 h2
  simp only [wList, List.cons_append, List.cons.injEq] at h
  have := byte_inj (len_isB h1.2) (len_isB h2.2) h.1
  exact bytes_inj (by omega) h1.1 h2.1 h.2

theorem wCode_flat (l : List (Int × Int)) : wCode l = (flat l).map byte := by
  induction l with
  | nil => rfl
  | cons x l ih => simp only [wCode, flat, List.flatMap_cons, List.map_append, List.map_cons, List.map_nil] at ih ⊢; rw [ih]
theorem flat_len (l : List (Int × Int)) : (flat l).length = 2 * l.length := by
  induction l with
  | nil => rfl
  | cons x l ih => simp only [flat, List.flatMap_cons, List.length_append, List.length_cons, List.length_nil] at ih ⊢; omega
theorem flat_inj : ∀ {l l' : List (Int × Int)}, flat l = flat l' → l = l'
  | [], [], _ => rfl
  | (a, b) :: l, (c, d) :: l', h => by
    simp only [flat, List.flatMap_cons, List.cons_append, List.nil_append, List.cons.injEq] at h
    obtain ⟨rfl, rfl, h⟩ := h
    rw [flat_inj h]
  | [], (_, _) :: _, h => by simp [flat] at h
  | (_, _) :: _, [], h => by simp [flat] at h

theorem wFn_inj {f f' : Fn} {t t' : List UInt8} (h1 : smallF f = true) (h2 : smallF f' = true) (h : wFn f ++ t = wFn f' ++ t') : f = f' ∧ t = t' := by
  simp only [smallF, Bool.and_eq_true, decide_eq_true_eq] at h1 h2
  obtain ⟨⟨⟨⟨p1, r1⟩, l1⟩, n1⟩, c1⟩ := h1
  obtain ⟨⟨⟨⟨p2, r2⟩, l2⟩, n2⟩, c2⟩ := h2
  simp only [wFn, List.append_assoc, List.cons_append] at h
  obtain ⟨e1, h⟩ := wList_inj p1 p2 h
  obtain ⟨e2, h⟩ := wList_inj r1 r2 h
  obtain ⟨e3, h⟩ := wList_inj l1 l2 h
  simp only [List.cons.injEq] at h
  have e4 := byte_inj (len_isB (by omega)) (len_isB (by omega)) h.1
  have h5 := h.2
  rw [wCode_flat, wCode_flat] at h5
  obtain ⟨e5, h6⟩ := bytes_inj (by rw [flat_len, flat_len]; omega) c1 c2 h5
  have e6 := flat_inj e5
  obtain ⟨a, b, c, d⟩ := f
  obtain ⟨a', b', c', d'⟩ := f'
  simp only at e1 e2 e3 e6
  subst e1 e2 e3 e6
  exact ⟨rfl, h6⟩

theorem wFns_inj : ∀ {l l' : List Fn} {t t' : List UInt8}, l.length = l'.length → l.all smallF = true → l'.all smallF = true → wFns l ++ t = wFns l' ++ t' → l = l' ∧ t = t'
  | [], [], _, _, _, _, _, h => ⟨rfl, by simpa [wFns] using h⟩
  | x :: l, y :: l', t, t', hl, h1, h2, h => by
    simp only [List.all_cons, Bool.and_eq_true] at h1 h2
    simp only [wFns, List.flatMap_cons, List.append_assoc] at h
    obtain ⟨e1, h⟩ := wFn_inj h1.1 h2.1 h
    obtain ⟨e, e'⟩ := wFns_inj (by simpa using hl) h1.2 h2.2 h
    exact ⟨by rw [e1, e], e'⟩
  | [], _ :: _, _, _, hl, _, _, _ => by simp at hl
  | _ :: _, [], _, _, hl, _, _, _ => by simp at hl

theorem wMd_inj {m m' : Md} (h1 : smallM m = true) (h2 : smallM m' = true) (h : wMd m = wMd m') : m = m' := by
  simp only [smallM, Bool.and_eq_true, decide_eq_true_eq] at h1 h2
  simp only [wMd, List.cons.injEq, true_and] at h
  obtain ⟨e1, h⟩ := wList_inj h1.1.1 h2.1.1 h
  simp only [List.cons.injEq] at h
  have e2 := byte_inj (len_isB (by omega)) (len_isB (by omega)) h.1
  obtain ⟨e3, _⟩ := wFns_inj (t := []) (t' := []) (by omega) h1.2 h2.2 (by rw [h.2])
  obtain ⟨a, b⟩ := m
  obtain ⟨a', b'⟩ := m'
  simp only at e1 e3
  subst e1 e3
  rfl

theorem isList_small {l : List Int} {most hi : Int} (hm : most ≤ 255) (hh : hi ≤ 255) (h : isList l most hi = true) : smallL l = true := by
  simp only [isList, smallL, isB, Bool.and_eq_true, decide_eq_true_eq, List.all_eq_true] at h ⊢
  exact ⟨fun x hx => by have := h.2 x hx; omega, by omega⟩

theorem isFn_small {f : Fn} {ki fu : Int} (hk : ki ≤ 255) (hf : fu ≤ 255) (h : isFn f ki fu = true) : smallF f = true := by
  simp only [isFn, Bool.and_eq_true, decide_eq_true_eq] at h
  obtain ⟨h1, h2, h3, h4, h5, h6⟩ := h
  have p1 : (f.params.length : Int) ≤ 4 := by simp only [isList, Bool.and_eq_true, decide_eq_true_eq] at h1; exact h1.1
  have p3 : (f.locals.length : Int) ≤ 4 := by simp only [isList, Bool.and_eq_true, decide_eq_true_eq] at h3; exact h3.1
  simp only [smallF, Bool.and_eq_true, decide_eq_true_eq]
  refine ⟨⟨⟨⟨isList_small (by omega) hk h1, isList_small (by omega) hk h2⟩, isList_small (by omega) hk h3⟩, by omega⟩, ?_⟩
  rw [List.all_eq_true]
  intro x hx
  obtain ⟨y, hy, hxy⟩ := List.mem_flatMap.1 hx
  simp only [isCode, List.all_eq_true] at h6
  have h7 := h6 y hy
  simp only [isInstr, Bool.and_eq_true, decide_eq_true_eq] at h7
  have a1 := argLo_ge y.1
  have a2 := argHi_le ki fu ((f.params.length : Int) + (f.locals.length : Int)) f.code.length y.1 hk hf (by omega) (by omega)
  simp only [isB, Bool.and_eq_true, decide_eq_true_eq]
  simp only [List.mem_cons, List.not_mem_nil, or_false] at hxy
  rcases hxy with rfl | rfl <;> omega

theorem isMd_small {m : Md} (h : isMd m = true) : smallM m = true := by
  simp only [isMd, Bool.and_eq_true, decide_eq_true_eq, List.all_eq_true] at h
  obtain ⟨h1, h2, h3, h4⟩ := h
  have p1 : (m.kinds.length : Int) ≤ 6 := by simp only [isList, Bool.and_eq_true, decide_eq_true_eq] at h1; exact h1.1
  simp only [smallM, Bool.and_eq_true, decide_eq_true_eq, List.all_eq_true]
  exact ⟨⟨isList_small (by omega) (by omega) h1, by omega⟩, fun f hf => isFn_small (by omega) (by omega) (h4 f hf)⟩

theorem whole_is {m : Md} (hs : smallM m = true) : wholeBad ⟨(wMd m).toArray⟩ = !isMd m := by
  have e : (ByteArray.mk (wMd m).toArray).data.toList = wMd m ++ [] := by simp
  have hsz : (ByteArray.mk (wMd m).toArray).size = (wMd m).length := by simp [ByteArray.size]
  cases hm : isMd m with
  | true =>
    obtain ⟨g1, g2, g3⟩ := module_go e hm
    have hle : ¬ (module ⟨(wMd m).toArray⟩).2.1 < (ByteArray.mk (wMd m).toArray).size := by
      simp only [rest, List.drop_eq_nil_iff] at g3
      rw [hsz]
      simpa using g3
    simp only [wholeBad, atEnd, hle, if_false, g2]
    rfl
  | false =>
    cases hw : wholeBad ⟨(wMd m).toArray⟩ with
    | true => rfl
    | false =>
      exfalso
      unfold wholeBad at hw
      have h3 : ¬ (module ⟨(wMd m).toArray⟩).2.1 < (ByteArray.mk (wMd m).toArray).size := by
        intro hc; simp [atEnd, hc] at hw
      have h4 : (module ⟨(wMd m).toArray⟩).2.2 = false := by
        simp only [atEnd, h3, if_false] at hw; simpa using hw
      obtain ⟨k1, k2⟩ := module_ok h4
      have hn : rest ⟨(wMd m).toArray⟩ (module ⟨(wMd m).toArray⟩).2 = [] := by
        simp only [rest, List.drop_eq_nil_iff]
        rw [hsz] at h3
        simpa using h3
      rw [hn, List.append_nil] at k1
      have := wMd_inj hs (isMd_small k2) k1
      rw [← this, hm] at k2
      simp at k2

/-- both ways of Encode are one. -/
theorem renc_eq (m : Md) : renc m = encode m := by
  unfold renc encode
  cases hs : smallM m with
  | true =>
    rw [if_pos rfl, whole_is hs]
    cases isMd m <;> simp
  | false =>
    cases hm : isMd m with
    | true => rw [isMd_small hm] at hs; simp at hs
    | false => simp
end Pu
end Go.Proofs.Ytjamgmbdilkbcaa
