import Derived.Test.YtjamgmbdilkbcaaLotChecked31
/- The document's leads. -/
namespace Go.Proofs.Ytjamgmbdilkbcaa
open Go.RowKit

/-- is there a next one where there must be? -/
def nextS (x : Int × Int) (i n : Nat) : Bool := decide (x.1 = 0 ∨ x.1 = 6 ∨ x.1 = 18) || decide (i + 1 < n)
def RLead (w w' : World) (f : Pu.Fn) (a : Nat) (x : Int × Int) (e : Ending) : Prop :=
  ∃ v, e = .returned (.tuple #[v, .bool (nextS x a f.code.length)]) ∧ IntsR w' w'.heap.size v ((Fl.leads x a).map Int.ofNat) ∧ Below w.heap.size w w' ∧ ∀ k, v.ownBlock = some k → w.heap.size ≤ k

theorem ints_none (w : World) (B : Nat) : IntsR w B (.slice none 0 0) [] := ⟨none, 0, 0, 0, rfl, fun h => absurd h (by simp), fun j hj => absurd hj (by simp)⟩
theorem ints_one (W : World) (x : Int) (t : TypeId) : IntsR (W.alloc (.cells #[.int .i64 x] t)) (W.heap.size + 1) (.slice (some ⟨W.heap.size, 0, none⟩) 1 1) [x] := by
  refine ⟨_, 1, W.heap.size, 0, rfl, fun _ => ⟨rfl, by omega⟩, fun j hj => ?_⟩
  have h := heap_alloc_new W (.cells #[.int .i64 x] t)
  simp only [List.length_singleton] at hj
  obtain rfl : j = 0 := by omega
  unfold World.cell?
  simp only [h]
  rfl
theorem ints_two (W : World) (x y : Int) (t : TypeId) : IntsR (W.alloc (.cells #[.int .i64 x, .int .i64 y] t)) (W.heap.size + 1) (.slice (some ⟨W.heap.size, 0, none⟩) 2 2) [x, y] := by
  refine ⟨_, 2, W.heap.size, 0, rfl, fun _ => ⟨rfl, by omega⟩, fun j hj => ?_⟩
  have h := heap_alloc_new W (.cells #[.int .i64 x, .int .i64 y] t)
  simp only [List.length_cons, List.length_nil] at hj
  have hj2 : j = 0 ∨ j = 1 := by omega
  rcases hj2 with rfl | rfl <;> (unfold World.cell?; simp only [h]; rfl)

set_option maxRecDepth 100000 in
set_option maxHeartbeats 1000000 in
theorem rleads_any (f : Pu.Fn) (a : Nat) (x : FV) (w : World) (hf : FnR w w.heap.size x f) (hnc : f.code.length ≤ 1000) (harg : 0 ≤ (f.code.getD a (0, 0)).2) (ha : a < f.code.length) :
    Calls Try.prog 106 #[.agg #[x.p, x.r, x.l, x.c], .int .i64 a] w fun e w' => RLead w w' f a (f.code.getD a (0, 0)) e := by
  obtain ⟨x1, y1, x2, y2, x3, y3, x4, y4, rfl⟩ := hf.shape
  obtain ⟨ac, cc', bc, oc, hcv, h1, h2⟩ := hf.c
  simp only [Value.slice.injEq, true_and] at hcv
  obtain ⟨rfl, rfl⟩ := hcv
  obtain ⟨rfl, hbB⟩ := h1 (by omega)
  obtain ⟨k0, k1⟩ := h2 a ha
  clear h1 h2
  have bl0 := (Below.refl w.heap.size w).alloc (Nat.le_refl _) (.cells #[.slice x1 f.params.length y1, .slice x2 f.results.length y2, .slice x3 f.locals.length y3, .slice (some ⟨bc, oc, none⟩) f.code.length y4] 86)
  have e0 := (bl0.cell (p := ⟨bc, oc + a * 2, none⟩) hbB).trans k0
  have e1 := (bl0.cell (p := ⟨bc, oc + a * 2 + 1, none⟩) hbB).trans k1
  generalize f.code.getD a (0, 0) = xx at *
  obtain ⟨op, arg⟩ := xx
  simp only at e0 e1 harg
  clear k0 k1 hf
  have wa : wrap64 ((a : Int) + 1) = (a : Int) + 1 := by unfold wrap64; omega
  have wa2 : IntKind.i64.wrap ((a : Int) + 1) = (a : Int) + 1 := IntWalk.i64_in _ (by omega)
  have bl1 : ∀ o : Obj, Below w.heap.size w ((w.alloc (.cells #[.slice x1 f.params.length y1, .slice x2 f.results.length y2, .slice x3 f.locals.length y3, .slice (some ⟨bc, oc, none⟩) f.code.length y4] 86)).alloc o) := fun o => bl0.alloc (by simp) o
  have bl2 : ∀ o o' : Obj, Below w.heap.size w (((w.alloc (.cells #[.slice x1 f.params.length y1, .slice x2 f.results.length y2, .slice x3 f.locals.length y3, .slice (some ⟨bc, oc, none⟩) f.code.length y4] 86)).alloc o).alloc o') := fun o o' => (bl1 o).alloc (by simp; omega) o'
  have BL1 := hid bl1
  have BL2 := hid bl2
  clear bl1 bl2 bl0
  go_enter Try.func106, Try.ntmps106
  by_cases h0 : op = 0
  · subst h0
    go_wp2_with fail
    go_ret2
    exact ⟨.slice none 0 0, by simp [nextS], by simp only [Fl.leads]; exact ints_none _ _, BL1.out _, fun k hk => by cases hk⟩
  by_cases h18 : op = 18
  · subst h18
    go_wp2_with fail
    go_ret2
    exact ⟨.slice none 0 0, by simp [nextS], by simp only [Fl.leads]; exact ints_none _ _, BL1.out _, fun k hk => by cases hk⟩
  have b0 : (op == 0) = false := by simpa using h0
  have b18 : (op == 18) = false := by simpa using h18
  by_cases h6 : op = 6
  · subst h6
    clear h0 h18 b0 b18
    have hl : (Fl.leads (6, arg) a).map Int.ofNat = [arg] := by simp [Fl.leads]; omega
    go_wp2_with fail
    go_ret2
    exact ⟨.slice (some ⟨w.heap.size + 1 + 1, 0, none⟩) 1 1, by simp [nextS], by rw [hl]; have h := ints_one (((w.alloc (.cells #[.slice x1 f.params.length y1, .slice x2 f.results.length y2, .slice x3 f.locals.length y3, .slice (some ⟨bc, oc, none⟩) f.code.length y4] 86)).alloc (.cells #[.int .i64 6, .int .i64 arg] 80))) arg 3; simp at h ⊢; exact h, BL2.out _ _, fun k hk => by cases hk; show _ ≤ w.heap.size + 1 + 1; omega⟩
  have b6 : (op == 6) = false := by simpa using h6
  by_cases h7 : op = 7
  · subst h7
    have hl : (Fl.leads (7, arg) a).map Int.ofNat = [arg, (a : Int) + 1] := by simp [Fl.leads]; omega
    have hx : nextS (7, arg) a f.code.length = decide ((a : Int) + 1 < (f.code.length : Int)) := by simp [nextS]; omega
    have FIN : RLead w (((w.alloc (.cells #[.slice x1 f.params.length y1, .slice x2 f.results.length y2, .slice x3 f.locals.length y3, .slice (some ⟨bc, oc, none⟩) f.code.length y4] 86)).alloc (.cells #[.int .i64 7, .int .i64 arg] 80)).alloc (.cells #[.int .i64 arg, .int .i64 ((a : Int) + 1)] 3)).drew f a (7, arg) (.returned (.tuple #[.slice (some ⟨w.heap.size + 1 + 1, 0, none⟩) 2 2, .bool (decide ((a : Int) + 1 < (f.code.length : Int)))])) := by
      refine ⟨.slice (some ⟨w.heap.size + 1 + 1, 0, none⟩) 2 2, by rw [hx], ?_, (BL2.out _ _).trans (Below.refl _ _).drew, fun k hk => by cases hk; show _ ≤ w.heap.size + 1 + 1; omega⟩
      rw [hl]
      have h := ints_two ((w.alloc (.cells #[.slice x1 f.params.length y1, .slice x2 f.results.length y2, .slice x3 f.locals.length y3, .slice (some ⟨bc, oc, none⟩) f.code.length y4] 86)).alloc (.cells #[.int .i64 7, .int .i64 arg] 80)) arg ((a : Int) + 1) 3
      simp only [World.size_alloc] at h
      exact (h.wide (by simp)).heap rfl
    have FIN := hid FIN
    clear hl hx
    go_wp2_with fail
    go_region_with fail
    all_goals (go_wp2_with fail; refine bodyPost_ret (v := .tuple #[.slice (some ⟨w.heap.size + 1 + 1, 0, none⟩) 2 2, .bool (decide ((a : Int) + 1 < (f.code.length : Int)))]) (by simp [results, Try.results106, go_sem]) rfl FIN.out)
  have b7 : (op == 7) = false := by simpa using h7
  have hl : (Fl.leads (op, arg) a).map Int.ofNat = [(a : Int) + 1] := by simp [Fl.leads, h0, h6, h7, h18]
  have hx : nextS (op, arg) a f.code.length = decide ((a : Int) + 1 < (f.code.length : Int)) := by simp [nextS, h0, h6, h18]; omega
  have FIN : RLead w (((w.alloc (.cells #[.slice x1 f.params.length y1, .slice x2 f.results.length y2, .slice x3 f.locals.length y3, .slice (some ⟨bc, oc, none⟩) f.code.length y4] 86)).alloc (.cells #[.int .i64 op, .int .i64 arg] 80)).alloc (.cells #[.int .i64 ((a : Int) + 1)] 3)).drew f a (op, arg) (.returned (.tuple #[.slice (some ⟨w.heap.size + 1 + 1, 0, none⟩) 1 1, .bool (decide ((a : Int) + 1 < (f.code.length : Int)))])) := by
    refine ⟨.slice (some ⟨w.heap.size + 1 + 1, 0, none⟩) 1 1, by rw [hx], ?_, (BL2.out _ _).trans (Below.refl _ _).drew, fun k hk => by cases hk; show _ ≤ w.heap.size + 1 + 1; omega⟩
    rw [hl]
    have h := ints_one ((w.alloc (.cells #[.slice x1 f.params.length y1, .slice x2 f.results.length y2, .slice x3 f.locals.length y3, .slice (some ⟨bc, oc, none⟩) f.code.length y4] 86)).alloc (.cells #[.int .i64 op, .int .i64 arg] 80)) ((a : Int) + 1) 3
    simp only [World.size_alloc] at h
    exact (h.wide (by simp)).heap rfl
  have FIN := hid FIN
  clear hl hx
  clear h0 h6 h7 h18
  go_wp2_with fail
  go_region_with fail
  all_goals (go_wp2_with fail; refine bodyPost_ret (v := .tuple #[.slice (some ⟨w.heap.size + 1 + 1, 0, none⟩) 1 1, .bool (decide ((a : Int) + 1 < (f.code.length : Int)))]) (by simp [results, Try.results106, go_sem]) rfl FIN.out)
end Go.Proofs.Ytjamgmbdilkbcaa
