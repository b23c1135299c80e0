import Derived.Test.YtjamgmbdilkbcaaLotGased05
import Derived.Test.YtjamgmbdilkbcaaLotGased01
import Derived.Deep.RegionWith
import Derived.Deep.RegionHeld3
/- The walks of wire's writer: isList. -/
namespace Go.Proofs.Ytjamgmbdilkbcaa
open Go.RowKit

/-- v is a list of the numbers l, in memory below block B. -/
def IntsR (w : World) (B : Nat) (v : Value) (l : List Int) : Prop :=
  ∃ (ao : Option Addr) (cap b off : Nat), v = .slice ao l.length cap ∧ (0 < l.length → ao = some ⟨b, off, none⟩ ∧ b < B) ∧ ∀ j, j < l.length → w.cell? ⟨b, off + j, none⟩ = some (.int .i64 (l.getD j 0))

theorem IntsR.below {w w' : World} {B : Nat} {v : Value} {l : List Int} (h : IntsR w B v l) (hb : Below B w w') : IntsR w' B v l := by
  obtain ⟨ao, cap, b, off, hv, h1, h2⟩ := h
  refine ⟨ao, cap, b, off, hv, h1, fun j hj => ?_⟩
  rw [hb.cell (p := ⟨b, off + j, none⟩) (h1 (by omega)).2]
  exact h2 j hj

theorem ret_bool {a b : Bool} (h : b = a) : Ending.returned (.bool a) = .returned (.bool b) := by rw [h]

theorem take_all_snoc {α : Type} (l : List α) (f : α → Bool) (k : Nat) (d : α) (hk : k < l.length) : (l.take (k + 1)).all f = ((l.take k).all f && f (l.getD k d)) := by
  rw [List.take_succ_eq_append_getElem hk, List.all_append]
  simp [List.getD_eq_getElem?_getD, hk]

theorem all_false_of {α : Type} (l : List α) (f : α → Bool) (k : Nat) (d : α) (hk : k < l.length) (h : f (l.getD k d) = false) : l.all f = false := by
  rw [List.all_eq_false]
  refine ⟨l[k], List.getElem_mem hk, ?_⟩
  simp [List.getD_eq_getElem?_getD, hk] at h
  simp [h]

set_option maxHeartbeats 400000 in
theorem isList_any (l : List Int) (most hi : Int) (v : Value) (B : Nat) (w : World) (h : IntsR w B v l) (hl : l.length ≤ maxLen) :
    Calls Try.prog 99 #[v, .int .i64 most, .int .i64 hi] w fun e w' => e = .returned (.bool (Pu.isList l most hi)) ∧ w' = w := by
  obtain ⟨ao, cap, b, off, rfl, h1, h2⟩ := h
  unfold maxLen at hl
  by_cases hm : most < l.length
  · have e1 : Pu.isList l most hi = false := by simp [Pu.isList]; omega
    rw [e1]
    clear e1 h1 h2
    go_enter Try.func99, Try.ntmps99
    go_wp2
    go_ret
    exact ⟨rfl, rfl⟩
  · have e1 : Hid (Pu.isList l most hi = l.all fun x => decide (0 ≤ x) && decide (x ≤ hi)) := by
      show Pu.isList l most hi = _
      unfold Pu.isList
      rw [show decide ((l.length : Int) ≤ most) = true from by simp; omega]
      simp
    go_enter Try.func99, Try.ntmps99
    go_wp2
    go_loop [7] (fun i => ∃ k : Nat, k ≤ l.length ∧ i = .int .i64 k ∧ (l.take k).all (fun x => decide (0 ≤ x) && decide (x ≤ hi)) = true) (fun i => l.length - (intOf i).toNat)
    case atStart => exact ⟨0, Nat.zero_le _, rfl, by simp⟩
    case round =>
      obtain ⟨k, hk, rfl, ha⟩ := hrel
      by_cases hlt : k < l.length
      · obtain ⟨rfl, hbB⟩ := h1 (by omega)
        have hc := h2 k hlt
        clear h1 h2
        have HT : Hid _ := take_all_snoc l (fun x => decide (0 ≤ x) && decide (x ≤ hi)) k 0 hlt
        have HF : Hid _ := all_false_of l (fun x => decide (0 ≤ x) && decide (x ≤ hi)) k 0 hlt
        have HA : Hid _ := ha
        clear ha
        generalize l.getD k 0 = x at *
        by_cases hx0 : x < 0
        · go_wp2
          go_ret
          exact ⟨ret_bool (by rw [e1.out, HF.out (by simp; omega)]), rfl⟩
        · by_cases hx1 : hi < x
          · go_wp2
            go_ret
            exact ⟨ret_bool (by rw [e1.out, HF.out (by simp; omega)]), rfl⟩
          · go_wp2
            go_round
            case rel => exact ⟨k + 1, hlt, by go_num, by rw [HT.out, HA.out]; simp; omega⟩
            case measure => simp [intOf]; omega
      · have HA : Hid _ := ha
        clear ha
        go_wp2
        go_ret
        exact ⟨ret_bool (by rw [e1.out, ← HA.out, List.take_of_length_le (by omega)]), rfl⟩
end Go.Proofs.Ytjamgmbdilkbcaa

/- The walks of wire's writer: isCode. -/
namespace Go.Proofs.Ytjamgmbdilkbcaa
open Go.RowKit

/-- v is a list of the instructions l. -/
def CodeR (w : World) (B : Nat) (v : Value) (l : List (Int × Int)) : Prop :=
  ∃ (ao : Option Addr) (cap b off : Nat), v = .slice ao l.length cap ∧ (0 < l.length → ao = some ⟨b, off, none⟩ ∧ b < B) ∧
    ∀ j, j < l.length → w.cell? ⟨b, off + j * 2, none⟩ = some (.int .i64 (l.getD j (0, 0)).1) ∧ w.cell? ⟨b, off + j * 2 + 1, none⟩ = some (.int .i64 (l.getD j (0, 0)).2)

theorem CodeR.below {w w' : World} {B : Nat} {v : Value} {l : List (Int × Int)} (h : CodeR w B v l) (hb : Below B w w') : CodeR w' B v l := by
  obtain ⟨ao, cap, b, off, hv, h1, h2⟩ := h
  refine ⟨ao, cap, b, off, hv, h1, fun j hj => ?_⟩
  rw [hb.cell (p := ⟨b, off + j * 2, none⟩) (h1 (by omega)).2, hb.cell (p := ⟨b, off + j * 2 + 1, none⟩) (h1 (by omega)).2]
  exact h2 j hj

set_option maxHeartbeats 1000000 in
theorem isCode_any (l : List (Int × Int)) (ki fu pl n : Int) (v : Value) (w : World) (h : CodeR w w.heap.size v l) (hl : l.length ≤ 1000)
    (hki : 0 ≤ ki ∧ ki ≤ 1000) (hfu : 0 ≤ fu ∧ fu ≤ 1000) (hpl : 0 ≤ pl ∧ pl ≤ 1000) (hn : 0 ≤ n ∧ n ≤ 1000) :
    Calls Try.prog 116 #[v, .agg #[.int .i64 ki, .int .i64 fu, .int .i64 pl, .int .i64 n]] w fun e w' => e = .returned (.bool (Pu.isCode l ki fu pl n)) ∧ Below w.heap.size w w' := by
  obtain ⟨ao, cap, b, off, rfl, h1, h2⟩ := h
  have hb0 : Bx (w.alloc (.cells #[.int .i64 ki, .int .i64 fu, .int .i64 pl, .int .i64 n] 186)) w.heap.size ki fu pl n := heap_alloc_new w _
  have hw0 := (Below.refl w.heap.size w).alloc (Nat.le_refl _) (.cells #[.int .i64 ki, .int .i64 fu, .int .i64 pl, .int .i64 n] 186)
  go_enter Try.func116, Try.ntmps116
  go_wp2
  go_loopw [5] (fun i wr => ∃ k : Nat, k ≤ l.length ∧ i = .int .i64 k ∧ (l.take k).all (Pu.isInstr ki fu pl n) = true ∧ Bx wr w.heap.size ki fu pl n ∧ Below w.heap.size w wr) (fun i _ => l.length - (intOf i).toNat)
  case atStart => exact ⟨0, Nat.zero_le _, rfl, by simp, hb0, hw0⟩
  case round =>
    obtain ⟨k, hk, rfl, ha, hbx, hbw⟩ := hrel
    clear hb0 hw0
    by_cases hlt : k < l.length
    · obtain ⟨rfl, hbB⟩ := h1 (by omega)
      have hc0 := (hbw.cell (p := ⟨b, off + k * 2, none⟩) hbB).trans (h2 k hlt).1
      have hc1 := (hbw.cell (p := ⟨b, off + k * 2 + 1, none⟩) hbB).trans (h2 k hlt).2
      clear h1 h2
      have HT : Hid _ := take_all_snoc l (Pu.isInstr ki fu pl n) k (0, 0) hlt
      have HF : Hid _ := all_false_of l (Pu.isInstr ki fu pl n) k (0, 0) hlt
      have HA : Hid _ := ha
      clear ha
      generalize l.getD k (0, 0) = x at *
      obtain ⟨op, arg⟩ := x
      simp only at *
      by_cases hx0 : op < 0
      · go_wp2
        go_ret
        exact ⟨ret_bool (by rw [Pu.isCode, HF.out (by simp [Pu.isInstr]; omega)]), hbw⟩
      · by_cases hx1 : 18 < op
        · go_wp2
          go_ret
          exact ⟨ret_bool (by rw [Pu.isCode, HF.out (by simp [Pu.isInstr]; omega)]), hbw⟩
        · have d0 := hbx.c0
          have d1 := hbx.c1
          have d2 := hbx.c2
          have d3 := hbx.c3
          have hop0 : 0 ≤ op := by omega
          have hop1 : op ≤ 18 := by omega
          clear hx0 hx1
          have hbl := hbx.lt
          go_wp2_with fail
          go_region_with ((go_at_call 124; refine (argRange_any ki fu pl n op _ hki hfu hpl hn hop0 hop1).mono ?_; rintro e w3 ⟨rfl, hg3⟩))
          all_goals
            have hbw3 : Below w.heap.size w w3 := by
              first
                | exact hbw.drew.grown hg3 (Nat.le_of_lt hbl) (by intro k hk; cases hk)
                | exact hbw.grown hg3 (Nat.le_of_lt hbl) (by intro k hk; cases hk)
            have hbx3 : Bx w3 w.heap.size ki fu pl n := (hg3.block _ hbl (by simp)).trans hbx
            have hc1' : w3.cell? ⟨b, off + k * 2 + 1, none⟩ = some (.int .i64 arg) := (World.cell?_of_block (hg3.block b (by simp; omega) (by simp))).trans hc1
            clear hg3 hbw hbx hc0 hc1 d0 d1 d2 d3
            by_cases hy0 : arg < Pu.argLo op
            · go_wp2
              go_ret
              exact ⟨ret_bool (by rw [Pu.isCode, HF.out (by simp [Pu.isInstr]; omega)]), hbw3⟩
            · by_cases hy1 : Pu.argHi ki fu pl n op < arg
              · go_wp2
                go_ret
                exact ⟨ret_bool (by rw [Pu.isCode, HF.out (by simp [Pu.isInstr]; omega)]), hbw3⟩
              · go_wp2
                go_roundw
                case rel => exact ⟨k + 1, hlt, by go_num, by rw [HT.out, HA.out]; simp [Pu.isInstr]; omega, hbx3, hbw3⟩
                case measure => simp [intOf]; omega
    · have HA : Hid _ := ha
      clear ha
      go_wp2
      go_ret
      exact ⟨ret_bool (by rw [Pu.isCode, ← HA.out, List.take_of_length_le (by omega)]), hbw⟩
end Go.Proofs.Ytjamgmbdilkbcaa

/- The walks of wire's writer: isFunction. -/
namespace Go.Proofs.Ytjamgmbdilkbcaa
open Go.RowKit

theorem IntsR.shape {w : World} {B : Nat} {v : Value} {l : List Int} (h : IntsR w B v l) : ∃ ao cap, v = .slice ao l.length cap := by
  obtain ⟨ao, cap, b, off, hv, _⟩ := h
  exact ⟨ao, cap, hv⟩
theorem CodeR.shape {w : World} {B : Nat} {v : Value} {l : List (Int × Int)} (h : CodeR w B v l) : ∃ ao cap, v = .slice ao l.length cap := by
  obtain ⟨ao, cap, b, off, hv, _⟩ := h
  exact ⟨ao, cap, hv⟩

/-- the values x are the lists of the function f. -/
structure FnR (w : World) (B : Nat) (x : FV) (f : Pu.Fn) : Prop where
  p : IntsR w B x.p f.params
  r : IntsR w B x.r f.results
  l : IntsR w B x.l f.locals
  c : CodeR w B x.c f.code
  np : f.params.length ≤ maxLen
  nr : f.results.length ≤ maxLen
  nl : f.locals.length ≤ maxLen
  nc : f.code.length ≤ maxLen

theorem FnR.below {w w' : World} {B : Nat} {x : FV} {f : Pu.Fn} (h : FnR w B x f) (hb : Below B w w') : FnR w' B x f :=
  ⟨h.p.below hb, h.r.below hb, h.l.below hb, h.c.below hb, h.np, h.nr, h.nl, h.nc⟩

theorem FnR.shape {w : World} {B : Nat} {x : FV} {f : Pu.Fn} (h : FnR w B x f) : ∃ a1 c1 a2 c2 a3 c3 a4 c4, x = ⟨.slice a1 f.params.length c1, .slice a2 f.results.length c2, .slice a3 f.locals.length c3, .slice a4 f.code.length c4⟩ := by
  obtain ⟨a1, c1, h1⟩ := h.p.shape
  obtain ⟨a2, c2, h2⟩ := h.r.shape
  obtain ⟨a3, c3, h3⟩ := h.l.shape
  obtain ⟨a4, c4, h4⟩ := h.c.shape
  obtain ⟨xp, xr, xl, xc⟩ := x
  simp only at h1 h2 h3 h4
  exact ⟨a1, c1, a2, c2, a3, c3, a4, c4, by rw [h1, h2, h3, h4]⟩

theorem IntsR.wide {w : World} {B B' : Nat} {v : Value} {l : List Int} (h : IntsR w B v l) (hB : B ≤ B') : IntsR w B' v l := by
  obtain ⟨ao, cap, b, off, hv, h1, h2⟩ := h
  exact ⟨ao, cap, b, off, hv, fun hl => ⟨(h1 hl).1, Nat.lt_of_lt_of_le (h1 hl).2 hB⟩, h2⟩
theorem CodeR.wide {w : World} {B B' : Nat} {v : Value} {l : List (Int × Int)} (h : CodeR w B v l) (hB : B ≤ B') : CodeR w B' v l := by
  obtain ⟨ao, cap, b, off, hv, h1, h2⟩ := h
  exact ⟨ao, cap, b, off, hv, fun hl => ⟨(h1 hl).1, Nat.lt_of_lt_of_le (h1 hl).2 hB⟩, h2⟩

set_option maxHeartbeats 1000000 in
theorem isFunction_any (f : Pu.Fn) (x : FV) (ki fu : Int) (w : World) (h : FnR w w.heap.size x f) (hki : 0 ≤ ki ∧ ki ≤ 1000) (hfu : 0 ≤ fu ∧ fu ≤ 1000) :
    Calls Try.prog 100 #[.agg #[x.p, x.r, x.l, x.c], .int .i64 ki, .int .i64 fu] w fun e w' => e = .returned (.bool (Pu.isFn f ki fu)) ∧ Below w.heap.size w w' := by
  obtain ⟨a1, c1, a2, c2, a3, c3, a4, c4, rfl⟩ := h.shape
  have hb0 := (Below.refl w.heap.size w).alloc (Nat.le_refl _) (.cells #[.slice a1 f.params.length c1, .slice a2 f.results.length c2, .slice a3 f.locals.length c3, .slice a4 f.code.length c4] 86)
  have h0 := h.below hb0
  have hnc := h.nc
  clear h
  unfold maxLen at hnc
  cases hq1 : Pu.isList f.params 4 ki with
  | false =>
    have H0 : Hid (Pu.isFn f ki fu = false) := by show _ = _; simp [Pu.isFn, hq1]
    have H1 : Hid _ := hq1
    clear hq1
    go_enter Try.func100, Try.ntmps100
    go_wp2_with fail
    refine (isList_any f.params 4 ki _ _ _ h0.p h0.np).mono ?_
    rintro e w1 ⟨rfl, rfl⟩
    rw [H1.out]
    go_wp2
    go_ret
    exact ⟨ret_bool H0.out, hb0⟩
  | true =>
    have H1 : Hid _ := hq1
    cases hq2 : Pu.isList f.results 3 ki with
    | false =>
      have H0 : Hid (Pu.isFn f ki fu = false) := by show _ = _; simp [Pu.isFn, hq2]
      have H2 : Hid _ := hq2
      clear hq1 hq2
      go_enter Try.func100, Try.ntmps100
      go_wp2_with fail
      refine (isList_any f.params 4 ki _ _ _ h0.p h0.np).mono ?_
      rintro e w1 ⟨rfl, rfl⟩
      rw [H1.out]
      go_wp2_with fail
      refine (isList_any f.results 3 ki _ _ _ h0.r h0.nr).mono ?_
      rintro e w1 ⟨rfl, rfl⟩
      rw [H2.out]
      go_wp2
      go_ret
      exact ⟨ret_bool H0.out, hb0⟩
    | true =>
      have H2 : Hid _ := hq2
      cases hq3 : Pu.isList f.locals 4 ki with
      | false =>
        have H0 : Hid (Pu.isFn f ki fu = false) := by show _ = _; simp [Pu.isFn, hq3]
        have H3 : Hid _ := hq3
        clear hq1 hq2 hq3
        go_enter Try.func100, Try.ntmps100
        go_wp2_with fail
        refine (isList_any f.params 4 ki _ _ _ h0.p h0.np).mono ?_
        rintro e w1 ⟨rfl, rfl⟩
        rw [H1.out]
        go_wp2_with fail
        refine (isList_any f.results 3 ki _ _ _ h0.r h0.nr).mono ?_
        rintro e w1 ⟨rfl, rfl⟩
        rw [H2.out]
        go_wp2_with fail
        refine (isList_any f.locals 4 ki _ _ _ h0.l h0.nl).mono ?_
        rintro e w1 ⟨rfl, rfl⟩
        rw [H3.out]
        go_wp2
        go_ret
        exact ⟨ret_bool H0.out, hb0⟩
      | true =>
        have H3 : Hid _ := hq3
        have H0 : Hid (Pu.isFn f ki fu = (decide (1 ≤ f.code.length) && (decide (f.code.length ≤ 100) && Pu.isCode f.code ki fu ((f.params.length : Int) + (f.locals.length : Int)) f.code.length))) := by
          show _ = _
          simp [Pu.isFn, hq1, hq2, hq3]
        have hl1 : f.params.length ≤ 4 := by simp [Pu.isList] at hq1; omega
        have hl3 : f.locals.length ≤ 4 := by simp [Pu.isList] at hq3; omega
        clear hq1 hq2 hq3
        go_enter Try.func100, Try.ntmps100
        go_wp2_with fail
        refine (isList_any f.params 4 ki _ _ _ h0.p h0.np).mono ?_
        rintro e w1 ⟨rfl, rfl⟩
        rw [H1.out]
        go_wp2_with fail
        refine (isList_any f.results 3 ki _ _ _ h0.r h0.nr).mono ?_
        rintro e w1 ⟨rfl, rfl⟩
        rw [H2.out]
        go_wp2_with fail
        refine (isList_any f.locals 4 ki _ _ _ h0.l h0.nl).mono ?_
        rintro e w1 ⟨rfl, rfl⟩
        rw [H3.out]
        by_cases hn0 : f.code.length < 1
        · go_wp2
          go_ret
          exact ⟨ret_bool (by rw [H0.out]; simp; omega), hb0⟩
        · by_cases hn1 : 100 < f.code.length
          · go_wp2
            go_ret
            exact ⟨ret_bool (by rw [H0.out]; simp; omega), hb0⟩
          · have hb1 := hb0.alloc (by simp) (.cells #[.int .i64 ki, .int .i64 fu, .int .i64 ((f.params.length : Int) + (f.locals.length : Int)), .int .i64 f.code.length] 186)
            have hc1 : CodeR ((w.alloc (.cells #[.slice a1 f.params.length c1, .slice a2 f.results.length c2, .slice a3 f.locals.length c3, .slice a4 f.code.length c4] 86)).alloc (.cells #[.int .i64 ki, .int .i64 fu, .int .i64 ((f.params.length : Int) + (f.locals.length : Int)), .int .i64 f.code.length] 186)) _ (.slice a4 f.code.length c4) f.code :=
              (h0.c.below ((Below.refl w.heap.size _).alloc (by simp) _))
            go_wp2_with fail
            refine (isCode_any f.code ki fu _ _ _ _ (hc1.wide (by simp only [World.size_alloc]; omega)) (by omega) hki hfu (by omega) (by omega)).mono ?_
            rintro e w2 ⟨rfl, hb2⟩
            have hb3 := hb1.trans (hb2.mono (by simp only [World.size_alloc]; omega))
            have H9 : Hid (Pu.isFn f ki fu = Pu.isCode f.code ki fu ((f.params.length : Int) + (f.locals.length : Int)) f.code.length) := by
              show _ = _
              rw [H0.out, show decide (1 ≤ f.code.length) = true from by simp; omega, show decide (f.code.length ≤ 100) = true from by simp; omega]
              simp
            go_wp2
            go_ret
            exact ⟨ret_bool H9.out, hb3⟩
end Go.Proofs.Ytjamgmbdilkbcaa

/- The walks of wire's writer: isModule. -/
namespace Go.Proofs.Ytjamgmbdilkbcaa
open Go.RowKit

/-- v is a list of the functions fs, whose lists are the values xs. -/
def FnsR (w : World) (B : Nat) (v : Value) (fs : List Pu.Fn) : Prop :=
  ∃ (ao : Option Addr) (cap b off : Nat), v = .slice ao fs.length cap ∧ (0 < fs.length → ao = some ⟨b, off, none⟩ ∧ b < B) ∧
    ∀ j, j < fs.length → ∃ x : FV, w.cell? ⟨b, off + j * 4, none⟩ = some x.p ∧ w.cell? ⟨b, off + j * 4 + 1, none⟩ = some x.r ∧ w.cell? ⟨b, off + j * 4 + 2, none⟩ = some x.l ∧ w.cell? ⟨b, off + j * 4 + 3, none⟩ = some x.c ∧
      FnR w B x (fs.getD j ⟨[], [], [], []⟩)

theorem FnsR.below {w w' : World} {B : Nat} {v : Value} {fs : List Pu.Fn} (h : FnsR w B v fs) (hb : Below B w w') : FnsR w' B v fs := by
  obtain ⟨ao, cap, b, off, hv, h1, h2⟩ := h
  refine ⟨ao, cap, b, off, hv, h1, fun j hj => ?_⟩
  obtain ⟨x, g0, g1, g2, g3, hx⟩ := h2 j hj
  have hbB := (h1 (by omega)).2
  exact ⟨x, (hb.cell (p := ⟨b, off + j * 4, none⟩) hbB).trans g0, (hb.cell (p := ⟨b, off + j * 4 + 1, none⟩) hbB).trans g1, (hb.cell (p := ⟨b, off + j * 4 + 2, none⟩) hbB).trans g2, (hb.cell (p := ⟨b, off + j * 4 + 3, none⟩) hbB).trans g3, hx.below hb⟩

theorem FnR.wide {w : World} {B B' : Nat} {x : FV} {f : Pu.Fn} (h : FnR w B x f) (hB : B ≤ B') : FnR w B' x f :=
  ⟨h.p.wide hB, h.r.wide hB, h.l.wide hB, h.c.wide hB, h.np, h.nr, h.nl, h.nc⟩

theorem FnsR.wide {w : World} {B B' : Nat} {v : Value} {fs : List Pu.Fn} (h : FnsR w B v fs) (hB : B ≤ B') : FnsR w B' v fs := by
  obtain ⟨ao, cap, b, off, hv, h1, h2⟩ := h
  refine ⟨ao, cap, b, off, hv, fun hl => ⟨(h1 hl).1, Nat.lt_of_lt_of_le (h1 hl).2 hB⟩, fun j hj => ?_⟩
  obtain ⟨x, g0, g1, g2, g3, hx⟩ := h2 j hj
  exact ⟨x, g0, g1, g2, g3, hx.wide hB⟩

theorem FnsR.shape {w : World} {B : Nat} {v : Value} {l : List Pu.Fn} (h : FnsR w B v l) : ∃ ao cap, v = .slice ao l.length cap := by
  obtain ⟨ao, cap, b, off, hv, _⟩ := h
  exact ⟨ao, cap, hv⟩

/-- the values k, v are the module m. -/
structure MdR (w : World) (B : Nat) (k v : Value) (m : Pu.Md) : Prop where
  k : IntsR w B k m.kinds
  v : FnsR w B v m.funcs
  nk : m.kinds.length ≤ maxLen
  nf : m.funcs.length ≤ maxLen

theorem MdR.below {w w' : World} {B : Nat} {k v : Value} {m : Pu.Md} (h : MdR w B k v m) (hb : Below B w w') : MdR w' B k v m :=
  ⟨h.k.below hb, h.v.below hb, h.nk, h.nf⟩
theorem MdR.wide {w : World} {B B' : Nat} {k v : Value} {m : Pu.Md} (h : MdR w B k v m) (hB : B ≤ B') : MdR w B' k v m :=
  ⟨h.k.wide hB, h.v.wide hB, h.nk, h.nf⟩

set_option maxHeartbeats 2000000 in
theorem isModule_any (m : Pu.Md) (kv vv : Value) (w : World) (h : MdR w w.heap.size kv vv m) :
    Calls Try.prog 79 #[.agg #[kv, vv]] w fun e w' => e = .returned (.bool (Pu.isMd m)) ∧ Below w.heap.size w w' := by
  obtain ⟨a1, c1, rfl⟩ := h.k.shape
  have hbx : F2 (w.alloc (.cells #[.slice a1 m.kinds.length c1, vv] 33)) w.heap.size 33 (.slice a1 m.kinds.length c1) vv := heap_alloc_new w _
  have hb0 := (Below.refl w.heap.size w).alloc (Nat.le_refl _) (.cells #[.slice a1 m.kinds.length c1, vv] 33)
  have h0 := h.below hb0
  have hnf := h.nf
  clear h
  unfold maxLen at hnf
  have hv := h0.v
  obtain ⟨ao, cap, b, off, rfl, h1, h2⟩ := hv
  cases hq1 : Pu.isList m.kinds 6 3 with
  | false =>
    have H0 : Hid (Pu.isMd m = false) := by show _ = _; simp [Pu.isMd, hq1]
    have H1 : Hid _ := hq1
    clear hq1 h1 h2
    go_enter Try.func79, Try.ntmps79
    go_wp2_with fail
    refine (isList_any m.kinds 6 3 _ _ _ h0.k h0.nk).mono ?_
    rintro e w1 ⟨rfl, rfl⟩
    rw [H1.out]
    go_wp2
    go_ret
    exact ⟨ret_bool H0.out, hb0⟩
  | true =>
    have H1 : Hid _ := hq1
    have H0 : Hid (Pu.isMd m = (decide (1 ≤ m.funcs.length) && (decide (m.funcs.length ≤ 8) && m.funcs.all fun f => Pu.isFn f m.kinds.length m.funcs.length))) := by
      show _ = _
      simp [Pu.isMd, hq1]
    have hl1 : m.kinds.length ≤ 6 := by simp [Pu.isList] at hq1; omega
    clear hq1
    by_cases hn0 : m.funcs.length < 1
    · clear h1 h2
      go_enter Try.func79, Try.ntmps79
      go_wp2_with fail
      refine (isList_any m.kinds 6 3 _ _ _ h0.k h0.nk).mono ?_
      rintro e w1 ⟨rfl, rfl⟩
      rw [H1.out]
      go_wp2
      go_ret
      exact ⟨ret_bool (by rw [H0.out]; simp; omega), hb0⟩
    · by_cases hn1 : 8 < m.funcs.length
      · clear h1 h2
        go_enter Try.func79, Try.ntmps79
        go_wp2_with fail
        refine (isList_any m.kinds 6 3 _ _ _ h0.k h0.nk).mono ?_
        rintro e w1 ⟨rfl, rfl⟩
        rw [H1.out]
        go_wp2
        go_ret
        exact ⟨ret_bool (by rw [H0.out]; simp; omega), hb0⟩
      · have H9 : Hid (Pu.isMd m = m.funcs.all fun f => Pu.isFn f m.kinds.length m.funcs.length) := by
          show _ = _
          rw [H0.out, show decide (1 ≤ m.funcs.length) = true from by simp; omega, show decide (m.funcs.length ≤ 8) = true from by simp; omega]
          simp
        clear H0
        obtain ⟨rfl, hbB⟩ := h1 (by omega)
        clear h1
        have H2 : Hid _ := h2
        clear h2
        go_enter Try.func79, Try.ntmps79
        go_wp2_with fail
        refine (isList_any m.kinds 6 3 _ _ _ h0.k h0.nk).mono ?_
        rintro e w1 ⟨rfl, rfl⟩
        rw [H1.out]
        go_wp2
        go_loopw [3] (fun i wr => ∃ k : Nat, k ≤ m.funcs.length ∧ i = .int .i64 k ∧ (m.funcs.take k).all (fun f => Pu.isFn f m.kinds.length m.funcs.length) = true ∧ F2 wr w.heap.size 33 (.slice a1 m.kinds.length c1) (.slice (some ⟨b, off, none⟩) m.funcs.length cap) ∧ Below w.heap.size w wr ∧
            Below w.heap.size (w.alloc (.cells #[.slice a1 m.kinds.length c1, .slice (some ⟨b, off, none⟩) m.funcs.length cap] 33)) wr) (fun i _ => m.funcs.length - (intOf i).toNat)
        case atStart => exact ⟨0, Nat.zero_le _, rfl, by simp, hbx, hb0, Below.refl _ _⟩
        case round =>
          obtain ⟨k, hk, rfl, ha, hbx', hbw, hba⟩ := hrel
          clear hbx hb0 h0
          have d0 := hbx'.c0
          have d1 := hbx'.c1
          have hbl := hbx'.lt
          by_cases hlt : k < m.funcs.length
          · obtain ⟨x, g0, g1, g2, g3, hx⟩ := H2.out k hlt
            obtain ⟨x1, y1, x2, y2, x3, y3, x4, y4, rfl⟩ := hx.shape
            have k0 := (hba.cell (p := ⟨b, off + k * 4, none⟩) hbB).trans g0
            have k1 := (hba.cell (p := ⟨b, off + k * 4 + 1, none⟩) hbB).trans g1
            have k2 := (hba.cell (p := ⟨b, off + k * 4 + 2, none⟩) hbB).trans g2
            have k3 := (hba.cell (p := ⟨b, off + k * 4 + 3, none⟩) hbB).trans g3
            have hxr := hx.below hba
            clear g0 g1 g2 g3 hx
            have HT : Hid _ := take_all_snoc m.funcs (fun f => Pu.isFn f m.kinds.length m.funcs.length) k ⟨[], [], [], []⟩ hlt
            have HF : Hid _ := all_false_of m.funcs (fun f => Pu.isFn f m.kinds.length m.funcs.length) k ⟨[], [], [], []⟩ hlt
            have HA : Hid _ := ha
            clear ha
            generalize m.funcs.getD k ⟨[], [], [], []⟩ = f at *
            simp only at *
            go_wp2_with fail
            have hxd : FnR wr.drew wr.drew.heap.size ⟨.slice x1 f.params.length y1, .slice x2 f.results.length y2, .slice x3 f.locals.length y3, .slice x4 f.code.length y4⟩ f := (hxr.wide (Nat.le_of_lt hbl)).below ⟨rfl, rfl, rfl, Nat.le_refl _, fun _ _ => rfl⟩
            clear hxr
            have hk2 : 0 ≤ (m.kinds.length : Int) ∧ (m.kinds.length : Int) ≤ 1000 := by omega
            have hf2 : 0 ≤ (m.funcs.length : Int) ∧ (m.funcs.length : Int) ≤ 1000 := by omega
            go_region_held3 (fun w' => w'.cell? ⟨w.heap.size, 0, none⟩ = some (.slice a1 m.kinds.length c1) ∧ w'.cell? ⟨w.heap.size, 1, none⟩ = some (.slice (some ⟨b, off, none⟩) m.funcs.length cap) ∧ w'.cell? ⟨b, off + k * 4, none⟩ = some (.slice x1 f.params.length y1) ∧ w'.cell? ⟨b, off + k * 4 + 1, none⟩ = some (.slice x2 f.results.length y2) ∧ w'.cell? ⟨b, off + k * 4 + 2, none⟩ = some (.slice x3 f.locals.length y3) ∧ w'.cell? ⟨b, off + k * 4 + 3, none⟩ = some (.slice x4 f.code.length y4))
              (first | exact ⟨d0, d1, k0, k1, k2, k3⟩ | exact ⟨(hb3.cell (p := ⟨w.heap.size, 0, none⟩) hbl).trans d0, (hb3.cell (p := ⟨w.heap.size, 1, none⟩) hbl).trans d1, (hb3.cell (p := ⟨b, off + k * 4, none⟩) (Nat.lt_trans hbB hbl)).trans k0, (hb3.cell (p := ⟨b, off + k * 4 + 1, none⟩) (Nat.lt_trans hbB hbl)).trans k1, (hb3.cell (p := ⟨b, off + k * 4 + 2, none⟩) (Nat.lt_trans hbB hbl)).trans k2, (hb3.cell (p := ⟨b, off + k * 4 + 3, none⟩) (Nat.lt_trans hbB hbl)).trans k3⟩)
              ((go_at_call 100; refine (isFunction_any f ⟨.slice x1 f.params.length y1, .slice x2 f.results.length y2, .slice x3 f.locals.length y3, .slice x4 f.code.length y4⟩ m.kinds.length m.funcs.length _ hxd hk2 hf2).mono ?_; rintro e w3 ⟨rfl, hb3⟩))
            all_goals
              have hbw3 : Below w.heap.size w w3 := hbw.drew.trans (hb3.mono (Nat.le_of_lt hbl))
              have hba3 : Below w.heap.size (w.alloc (.cells #[.slice a1 m.kinds.length c1, .slice (some ⟨b, off, none⟩) m.funcs.length cap] 33)) w3 := hba.drew.trans (hb3.mono (Nat.le_of_lt hbl))
              have hbx3 : F2 w3 w.heap.size 33 (.slice a1 m.kinds.length c1) (.slice (some ⟨b, off, none⟩) m.funcs.length cap) := (hb3.block w.heap.size hbl).trans hbx'
              clear hbw hba hb3 hbx' k0 k1 k2 k3 d0 d1 hxd
              cases hq : Pu.isFn f m.kinds.length m.funcs.length with
              | false =>
                have HQ : Hid _ := HF.out hq
                clear hq
                go_wp2
                go_ret
                exact ⟨ret_bool (by rw [H9.out, HQ.out]), hbw3⟩
              | true =>
                have HQ : Hid _ := hq
                clear hq
                go_wp2
                go_roundw
                case rel => exact ⟨k + 1, hlt, by go_num, by rw [HT.out, HA.out, HQ.out]; rfl, hbx3, hbw3, hba3⟩
                case measure => simp [intOf]; omega
          · have HA : Hid _ := ha
            clear ha
            go_wp2
            go_ret
            exact ⟨ret_bool (by rw [H9.out, ← HA.out, List.take_of_length_le (by omega)]), hbw⟩
end Go.Proofs.Ytjamgmbdilkbcaa
