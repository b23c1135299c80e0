/- The walks of wire's writer: isFunction. -/
import Derived.Test.YtjamgmbdilkbcaaWrite2
namespace Go.Proofs.Ytjamgmbdilkbcaa
open Go.RowKit

theorem IntsR.shape {w : World} {B : Nat} {v : Value} {l : List Int} (h : IntsR w B v l) : ∃ ao cap, v = .slice ao l.length cap := by
  obtain ⟨ao, cap, b, off, hv, _⟩ := h
  exact ⟨ao, cap, hv⟩
theorem CodeR.shape {w : World} {B : Nat} {v : Value} {l : List (Int × Int)} (h : CodeR w B v l) : ∃ ao cap, v = .slice ao l.length cap := by
  obtain ⟨ao, cap, b, off, hv, _⟩ := h
  exact ⟨ao, cap, hv⟩

/-- the values x are the lists of the function f. -/
structure FnR (w : World) (B : Nat) (x : FV) (f : Pu.Fn) : Prop where
  p : IntsR w B x.p f.params
  r : IntsR w B x.r f.results
  l : IntsR w B x.l f.locals
  c : CodeR w B x.c f.code
  np : f.params.length ≤ maxLen
  nr : f.results.length ≤ maxLen
  nl : f.locals.length ≤ maxLen
  nc : f.code.length ≤ maxLen

theorem FnR.below {w w' : World} {B : Nat} {x : FV} {f : Pu.Fn} (h : FnR w B x f) (hb : Below B w w') : FnR w' B x f :=
  ⟨h.p.below hb, h.r.below hb, h.l.below hb, h.c.below hb, h.np, h.nr, h.nl, h.nc⟩

theorem FnR.shape {w : World} {B : Nat} {x : FV} {f : Pu.Fn} (h : FnR w B x f) : ∃ a1 c1 a2 c2 a3 c3 a4 c4, x = ⟨.slice a1 f.params.length c1, .slice a2 f.results.length c2, .slice a3 f.locals.length c3, .slice a4 f.code.length c4⟩ := by
  obtain ⟨a1, c1, h1⟩ := h.p.shape
  obtain ⟨a2, c2, h2⟩ := h.r.shape
  obtain ⟨a3, c3, h3⟩ := h.l.shape
  obtain ⟨a4, c4, h4⟩ := h.c.shape
  obtain ⟨xp, xr, xl, xc⟩ := x
  simp only at h1 h2 h3 h4
  exact ⟨a1, c1, a2, c2, a3, c3, a4, c4, by rw [h1, h2, h3, h4]⟩

theorem IntsR.wide {w : World} {B B' : Nat} {v : Value} {l : List Int} (h : IntsR w B v l) (hB : B ≤ B') : IntsR w B' v l := by
  obtain ⟨ao, cap, b, off, hv, h1, h2⟩ := h
  exact ⟨ao, cap, b, off, hv, fun hl => ⟨(h1 hl).1, Nat.lt_of_lt_of_le (h1 hl).2 hB⟩, h2⟩
theorem CodeR.wide {w : World} {B B' : Nat} {v : Value} {l : List (Int × Int)} (h : CodeR w B v l) (hB : B ≤ B') : CodeR w B' v l := by
  obtain ⟨ao, cap, b, off, hv, h1, h2⟩ := h
  exact ⟨ao, cap, b, off, hv, fun hl => ⟨(h1 hl).1, Nat.lt_of_lt_of_le (h1 hl).2 hB⟩, h2⟩

set_option maxHeartbeats 1000000 in
theorem isFunction_any (f : Pu.Fn) (x : FV) (ki fu : Int) (w : World) (h : FnR w w.heap.size x f) (hki : 0 ≤ ki ∧ ki ≤ 1000) (hfu : 0 ≤ fu ∧ fu ≤ 1000) :
    Calls Try.prog 100 #[.agg #[x.p, x.r, x.l, x.c], .int .i64 ki, .int .i64 fu] w fun e w' => e = .returned (.bool (Pu.isFn f ki fu)) ∧ Below w.heap.size w w' := by
  obtain ⟨a1, c1, a2, c2, a3, c3, a4, c4, rfl⟩ := h.shape
  have hb0 := (Below.refl w.heap.size w).alloc (Nat.le_refl _) (.cells #[.slice a1 f.params.length c1, .slice a2 f.results.length c2, .slice a3 f.locals.length c3, .slice a4 f.code.length c4] 86)
  have h0 := h.below hb0
  have hnc := h.nc
  clear h
  unfold maxLen at hnc
  cases hq1 : Pu.isList f.params 4 ki with
  | false =>
    have H0 : Hid (Pu.isFn f ki fu = false) := by show _ = _; simp [Pu.isFn, hq1]
    have H1 : Hid _ := hq1
    clear hq1
    go_enter Try.func100, Try.ntmps100
    go_wp2_with fail
    refine (isList_any f.params 4 ki _ _ _ h0.p h0.np).mono ?_
    rintro e w1 ⟨rfl, rfl⟩
    rw [H1.out]
    go_wp2
    go_ret
    exact ⟨ret_bool H0.out, hb0⟩
  | true =>
    have H1 : Hid _ := hq1
    cases hq2 : Pu.isList f.results 3 ki with
    | false =>
      have H0 : Hid (Pu.isFn f ki fu = false) := by show _ = _; simp [Pu.isFn, hq2]
      have H2 : Hid _ := hq2
      clear hq1 hq2
      go_enter Try.func100, Try.ntmps100
      go_wp2_with fail
      refine (isList_any f.params 4 ki _ _ _ h0.p h0.np).mono ?_
      rintro e w1 ⟨rfl, rfl⟩
      rw [H1.out]
      go_wp2_with fail
      refine (isList_any f.results 3 ki _ _ _ h0.r h0.nr).mono ?_
      rintro e w1 ⟨rfl, rfl⟩
      rw [H2.out]
      go_wp2
      go_ret
      exact ⟨ret_bool H0.out, hb0⟩
    | true =>
      have H2 : Hid _ := hq2
      cases hq3 : Pu.isList f.locals 4 ki with
      | false =>
        have H0 : Hid (Pu.isFn f ki fu = false) := by show _ = _; simp [Pu.isFn, hq3]
        have H3 : Hid _ := hq3
        clear hq1 hq2 hq3
        go_enter Try.func100, Try.ntmps100
        go_wp2_with fail
        refine (isList_any f.params 4 ki _ _ _ h0.p h0.np).mono ?_
        rintro e w1 ⟨rfl, rfl⟩
        rw [H1.out]
        go_wp2_with fail
        refine (isList_any f.results 3 ki _ _ _ h0.r h0.nr).mono ?_
        rintro e w1 ⟨rfl, rfl⟩
        rw [H2.out]
        go_wp2_with fail
        refine (isList_any f.locals 4 ki _ _ _ h0.l h0.nl).mono ?_
        rintro e w1 ⟨rfl, rfl⟩
        rw [H3.out]
        go_wp2
        go_ret
        exact ⟨ret_bool H0.out, hb0⟩
      | true =>
        have H3 : Hid _ := hq3
        have H0 : Hid (Pu.isFn f ki fu = (decide (1 ≤ f.code.length) && (decide (f.code.length ≤ 100) && Pu.isCode f.code ki fu ((f.params.length : Int) + (f.locals.length : Int)) f.code.length))) := by
          show _ = _
          simp [Pu.isFn, hq1, hq2, hq3]
        have hl1 : f.params.length ≤ 4 := by simp [Pu.isList] at hq1; omega
        have hl3 : f.locals.length ≤ 4 := by simp [Pu.isList] at hq3; omega
        clear hq1 hq2 hq3
        go_enter Try.func100, Try.ntmps100
        go_wp2_with fail
        refine (isList_any f.params 4 ki _ _ _ h0.p h0.np).mono ?_
        rintro e w1 ⟨rfl, rfl⟩
        rw [H1.out]
        go_wp2_with fail
        refine (isList_any f.results 3 ki _ _ _ h0.r h0.nr).mono ?_
        rintro e w1 ⟨rfl, rfl⟩
        rw [H2.out]
        go_wp2_with fail
        refine (isList_any f.locals 4 ki _ _ _ h0.l h0.nl).mono ?_
        rintro e w1 ⟨rfl, rfl⟩
        rw [H3.out]
        by_cases hn0 : f.code.length < 1
        · go_wp2
          go_ret
          exact ⟨ret_bool (by rw [H0.out]; simp; omega), hb0⟩
        · by_cases hn1 : 100 < f.code.length
          · go_wp2
            go_ret
            exact ⟨ret_bool (by rw [H0.out]; simp; omega), hb0⟩
          · have hb1 := hb0.alloc (by simp) (.cells #[.int .i64 ki, .int .i64 fu, .int .i64 ((f.params.length : Int) + (f.locals.length : Int)), .int .i64 f.code.length] 186)
            have hc1 : CodeR ((w.alloc (.cells #[.slice a1 f.params.length c1, .slice a2 f.results.length c2, .slice a3 f.locals.length c3, .slice a4 f.code.length c4] 86)).alloc (.cells #[.int .i64 ki, .int .i64 fu, .int .i64 ((f.params.length : Int) + (f.locals.length : Int)), .int .i64 f.code.length] 186)) _ (.slice a4 f.code.length c4) f.code :=
              (h0.c.below ((Below.refl w.heap.size _).alloc (by simp) _))
            go_wp2_with fail
            refine (isCode_any f.code ki fu _ _ _ _ (hc1.wide (by simp only [World.size_alloc]; omega)) (by omega) hki hfu (by omega) (by omega)).mono ?_
            rintro e w2 ⟨rfl, hb2⟩
            have hb3 := hb1.trans (hb2.mono (by simp only [World.size_alloc]; omega))
            have H9 : Hid (Pu.isFn f ki fu = Pu.isCode f.code ki fu ((f.params.length : Int) + (f.locals.length : Int)) f.code.length) := by
              show _ = _
              rw [H0.out, show decide (1 ≤ f.code.length) = true from by simp; omega, show decide (f.code.length ≤ 100) = true from by simp; omega]
              simp
            go_wp2
            go_ret
            exact ⟨ret_bool H9.out, hb3⟩
end Go.Proofs.Ytjamgmbdilkbcaa
