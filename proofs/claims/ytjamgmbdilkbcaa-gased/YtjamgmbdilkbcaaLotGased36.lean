import Derived.Test.YtjamgmbdilkbcaaLotGased35
/- wire's isOwn, isScript, ReadScript. -/
namespace Go.Proofs.Ytjamgmbdilkbcaa
open Go.RowKit

def isOwn (op : Int) : Bool := decide (op = 12 ∨ op = 13 ∨ op = 15 ∨ op = 16)
def isScript (f : Pu.Fn) : Bool := decide (f.params.length = 0 ∧ f.results.length = 0) && f.code.all fun x => !isOwn x.1
/-- a script's bytes. -/
def readScript (b : ByteArray) (ki fu : Int) : Pu.Fn × Int :=
  if 1500 < b.size then (⟨[], [], [], []⟩, 1)
  else if (Pu.atEnd b (Pu.func b ki fu (0, false)).2).2 = true ∨ isScript (Pu.func b ki fu (0, false)).1 = false then (⟨[], [], [], []⟩, 2)
  else ((Pu.func b ki fu (0, false)).1, 0)

set_option maxHeartbeats 1000000 in
theorem isOwn_any (op : Int) (w : World) : Calls Try.prog 111 #[.int .i64 op] w fun e w' => e = .returned (.bool (isOwn op)) ∧ w' = w := by
  by_cases h12 : op = 12
  · subst h12
    go_enter Try.func111, Try.ntmps111
    go_wp2
    go_ret
    exact ⟨rfl, rfl⟩
  by_cases h13 : op = 13
  · subst h13
    go_enter Try.func111, Try.ntmps111
    go_wp2
    go_ret
    exact ⟨rfl, rfl⟩
  by_cases h15 : op = 15
  · subst h15
    go_enter Try.func111, Try.ntmps111
    go_wp2
    go_ret
    exact ⟨rfl, rfl⟩
  by_cases h16 : op = 16
  · subst h16
    go_enter Try.func111, Try.ntmps111
    go_wp2
    go_ret
    exact ⟨rfl, rfl⟩
  have e : isOwn op = false := by unfold isOwn; simp [h12, h13, h15, h16]
  rw [e]
  go_enter Try.func111, Try.ntmps111
  go_wp2
  go_ret
  exact ⟨rfl, rfl⟩

set_option maxRecDepth 100000 in
set_option maxHeartbeats 1000000 in
theorem isScript_any (f : Pu.Fn) (x : FV) (w : World) (h : FnR w w.heap.size x f) (hc : f.code.length ≤ 1000) :
    Calls Try.prog 86 #[.agg #[x.p, x.r, x.l, x.c]] w fun e w' => e = .returned (.bool (isScript f)) ∧ Below w.heap.size w w' := by
  obtain ⟨x1, y1, x2, y2, x3, y3, x4, y4, rfl⟩ := h.shape
  obtain ⟨ao, cap, b, off, hvv, h1, h2⟩ := h.c
  have hp := h.np
  have hr := h.nr
  simp only [Value.slice.injEq, true_and] at hvv
  obtain ⟨rfl, rfl⟩ := hvv
  clear h
  have HE : Hid (isScript f = (decide (f.params.length = 0 ∧ f.results.length = 0) && f.code.all fun x => !isOwn x.1)) := rfl
  generalize f.params.length = np at *
  generalize f.results.length = nr at *
  have bl0 := (Below.refl w.heap.size w).alloc (Nat.le_refl _) (.cells #[.slice x1 np y1, .slice x2 nr y2, .slice x3 f.locals.length y3, .slice x4 f.code.length y4] 86)
  have fb0 : F4 (w.alloc (.cells #[.slice x1 np y1, .slice x2 nr y2, .slice x3 f.locals.length y3, .slice x4 f.code.length y4] 86)) w.heap.size 86 (.slice x1 np y1) (.slice x2 nr y2) (.slice x3 f.locals.length y3) (.slice x4 f.code.length y4) := heap_alloc_new w _
  have d0 := fb0.c0
  have d1 := fb0.c1
  by_cases hp0 : np = 0
  · subst hp0
    by_cases hr0 : nr = 0
    · subst hr0
      have HE2 : Hid (isScript f = f.code.all fun x => !isOwn x.1) := by show _ = _; rw [HE.out]; simp
      clear HE d0 d1
      generalize f.code = l at *
      go_enter Try.func86, Try.ntmps86
      go_wp2
      go_loopw [3] (fun i wr => ∃ k : Nat, k ≤ l.length ∧ i = .int .i64 k ∧ (l.take k).all (fun x => !isOwn x.1) = true ∧ F4 wr w.heap.size 86 (.slice x1 0 y1) (.slice x2 0 y2) (.slice x3 f.locals.length y3) (.slice x4 l.length y4) ∧ Below w.heap.size w wr) (fun i _ => l.length - (intOf i).toNat)
      case atStart => exact ⟨0, Nat.zero_le _, rfl, by simp, fb0, bl0⟩
      case round =>
        obtain ⟨k, hk, rfl, ha, fb, hbw⟩ := hrel
        clear fb0 bl0
        have d3 := fb.c3
        by_cases hlt : k < l.length
        · obtain ⟨rfl, hbB⟩ := h1 (by omega)
          have hc0 := (hbw.cell (p := ⟨b, off + k * 2, none⟩) hbB).trans (h2 k hlt).1
          clear h1 h2
          have HT : Hid _ := take_all_snoc l (fun x => !isOwn x.1) k (0, 0) hlt
          have HF : Hid _ := all_false_of l (fun x => !isOwn x.1) k (0, 0) hlt
          have HA : Hid _ := ha
          clear ha
          generalize l.getD k (0, 0) = x at *
          obtain ⟨op, arg⟩ := x
          simp only at *
          go_wp2_with fail
          refine (isOwn_any op _).mono ?_
          rintro e w3 ⟨rfl, rfl⟩
          by_cases hop : isOwn op = true
          · have HOP := hid hop
            rw [hop]
            go_wp2
            go_ret
            exact ⟨ret_bool (by rw [HE2.out, HF.out (by rw [HOP.out]; rfl)]), hbw⟩
          · rw [Bool.not_eq_true] at hop
            have HOP := hid hop
            rw [hop]
            go_wp2
            go_roundw
            case rel => exact ⟨k + 1, hlt, by go_num, by rw [HT.out, HA.out, HOP.out]; rfl, fb, hbw⟩
            case measure => simp [intOf]; omega
        · have HA : Hid _ := ha
          clear ha
          go_wp2
          go_ret
          exact ⟨ret_bool (by rw [HE2.out, ← HA.out, List.take_of_length_le (by omega)]), hbw⟩
    · have HE2 : Hid (isScript f = false) := by show _ = _; rw [HE.out]; simp [hr0]
      go_enter Try.func86, Try.ntmps86
      go_wp2
      go_ret
      exact ⟨ret_bool HE2.out, bl0⟩
  · have HE2 : Hid (isScript f = false) := by show _ = _; rw [HE.out]; simp [hp0]
    go_enter Try.func86, Try.ntmps86
    go_wp2
    go_ret
    exact ⟨ret_bool HE2.out, bl0⟩

theorem func_small (b : ByteArray) (ki fu : Int) (s : Pu.St) : (Pu.func b ki fu s).1.code.length ≤ 1000 := by
  unfold Pu.func
  simp only [Pu.code_len]
  have q := Pu.number_rng b 1 100 (Pu.list b 4 ki (Pu.list b 3 ki (Pu.list b 4 ki s).2).2).2
  omega

/-- what ReadScript leaves: nothing, or a function in fresh memory. -/
def ScOut (w w' : World) (b : ByteArray) (ki fu : Int) (e : Ending) : Prop :=
  (∃ x : FV, e = .returned (.tuple #[.agg #[x.p, x.r, x.l, x.c], .int .i64 (readScript b ki fu).2]) ∧ FnAt w' w.heap.size (readScript b ki fu).1 x) ∧ Below w.heap.size w w'

theorem no_reads (w : World) (B : Nat) : FnAt w B ⟨[], [], [], []⟩ ⟨.slice none 0 0, .slice none 0 0, .slice none 0 0, .slice none 0 0⟩ :=
  ⟨World.ownsRow_nil _ _ _ _, World.ownsRow_nil _ _ _ _, World.ownsRow_nil _ _ _ _, World.ownsRow_nil _ _ _ _⟩

set_option maxRecDepth 100000 in
set_option maxHeartbeats 2000000 in
theorem readScript_any (b : ByteArray) (ki fu : Int) (w : World) (hs : b.size ≤ maxLen) (hki : 0 ≤ ki ∧ ki ≤ 1000) (hfu : 0 ≤ fu ∧ fu ≤ 1000) :
    Calls Try.prog 50 #[.string b, .int .i64 ki, .int .i64 fu] w fun e w' => ScOut w w' b ki fu e := by
  by_cases hl : 1500 < b.size
  · have HD : Hid (readScript b ki fu = (⟨[], [], [], []⟩, 1)) := by show _ = _; simp [readScript, hl]
    go_enter Try.func50, Try.ntmps50
    go_wp2
    refine bodyPost_ret (v := .tuple #[.agg #[.slice none 0 0, .slice none 0 0, .slice none 0 0, .slice none 0 0], .int .i64 1]) (by simp [results, Try.results50, go_sem]) rfl ⟨?_, (Below.refl _ _).alloc (Nat.le_refl _) _⟩
    rw [HD.out]
    exact ⟨⟨.slice none 0 0, .slice none 0 0, .slice none 0 0, .slice none 0 0⟩, rfl, no_reads _ _⟩
  · have hr0 : Rd ((w.alloc (Obj.cells #[Value.slice none 0 0, Value.slice none 0 0, Value.slice none 0 0, Value.slice none 0 0] 86)).alloc (Obj.cells #[Value.string b, Value.int IntKind.i64 0, Value.bool false] 142)) (w.heap.size + 1) b (0, false) := by
      have := heap_alloc_new (w.alloc (Obj.cells #[Value.slice none 0 0, Value.slice none 0 0, Value.slice none 0 0, Value.slice none 0 0] 86)) (Obj.cells #[Value.string b, Value.int IntKind.i64 0, Value.bool false] 142)
      simpa [Rd] using this
    have hres : F4 ((w.alloc (Obj.cells #[Value.slice none 0 0, Value.slice none 0 0, Value.slice none 0 0, Value.slice none 0 0] 86)).alloc (Obj.cells #[Value.string b, Value.int IntKind.i64 0, Value.bool false] 142)) w.heap.size 86 (.slice none 0 0) (.slice none 0 0) (.slice none 0 0) (.slice none 0 0) :=
      F4.kept (w := w.alloc (Obj.cells #[Value.slice none 0 0, Value.slice none 0 0, Value.slice none 0 0, Value.slice none 0 0] 86)) (heap_alloc_new w _) (World.grownBy_alloc _ _ none) (by simp)
    have hb0 : Below w.heap.size w ((w.alloc (Obj.cells #[Value.slice none 0 0, Value.slice none 0 0, Value.slice none 0 0, Value.slice none 0 0] 86)).alloc (Obj.cells #[Value.string b, Value.int IntKind.i64 0, Value.bool false] 142)) :=
      ((Below.refl _ _).alloc (Nat.le_refl _) _).alloc (by simp) _
    go_enter Try.func50, Try.ntmps50
    go_wp2_with fail
    refine (function_any (w.heap.size + 1) b _ ki fu _ hr0 hs hki hfu).mono ?_
    rintro e w1 ⟨x, rfl, hx, _, hr1, hg⟩
    have hres1 := hres.kept hg (by simp)
    have hb1 := hb0.grown hg (by simp only [World.size_alloc]; omega) (by intro k hk; simp at hk; omega)
    clear hr0 hres hb0 hg
    simp only [World.size_alloc] at hx
    have HD : Hid (readScript b ki fu = if (Pu.atEnd b (Pu.func b ki fu (0, false)).2).2 = true ∨ isScript (Pu.func b ki fu (0, false)).1 = false then (⟨[], [], [], []⟩, 2) else ((Pu.func b ki fu (0, false)).1, 0)) := by
      show _ = _
      unfold readScript
      rw [if_neg hl]
    have hfs := func_small b ki fu (0, false)
    generalize Pu.func b ki fu (0, false) = q at *
    obtain ⟨f, s⟩ := q
    simp only at *
    obtain ⟨x1, y1, x2, y2, x3, y3, x4, y4, rfl⟩ := hx.shape
    obtain ⟨O, hO⟩ : ∃ O, O = Obj.cells #[.slice x1 f.params.length y1, .slice x2 f.results.length y2, .slice x3 f.locals.length y3, .slice x4 f.code.length y4] 86 := ⟨_, rfl⟩
    have hr2 := hr1.kept (World.grownBy_alloc w1 O none) (by simp)
    have hres2 := hres1.kept (World.grownBy_alloc w1 O none) (by simp)
    have hx2 := hx.none (World.grownBy_alloc w1 O none)
    have hmv2 : F4 (w1.alloc O) w1.heap.size 86 (.slice x1 f.params.length y1) (.slice x2 f.results.length y2) (.slice x3 f.locals.length y3) (.slice x4 f.code.length y4) := by rw [hO]; exact heap_alloc_new w1 _
    have hw1 := hr1.lt
    have hb2 := hb1.alloc (by omega) O
    subst hO
    clear hr1 hres1 hx hb1
    go_wp2_with fail
    refine (end_any (w.heap.size + 1) b _ _ hr2).mono ?_
    rintro e w3 ⟨rfl, hr3, hg⟩
    have hres3 := hres2.kept hg (by simp)
    have hx3 := hx2.kept hg (by omega)
    have hmv3 := hmv2.kept hg (by simp; omega)
    have hb3 := hb2.grown hg (by simp only [World.size_alloc]; omega) (by intro k hk; simp at hk; omega)
    clear hr2 hres2 hx2 hmv2 hb2 hg
    generalize Pu.atEnd b s = s' at *
    obtain ⟨at', bad⟩ := s'
    simp only at *
    have d2 := hr3.c2
    have m0 := hmv3.c0
    have m1 := hmv3.c1
    have m2 := hmv3.c2
    have m3 := hmv3.c3
    cases bad with
    | true =>
      have g0 := hres3.c0
      have g1 := hres3.c1
      have g2 := hres3.c2
      have g3 := hres3.c3
      have e0 := hres3.fz 0
      have e1 := hres3.fz 1
      have e2 := hres3.fz 2
      have e3 := hres3.fz 3
      have HD2 : Hid (readScript b ki fu = (⟨[], [], [], []⟩, 2)) := by show _ = _; rw [HD.out]; simp
      clear HD
      go_wp2
      clear g0 g1 g2 g3 e0 e1 e2 e3 d2 m0 m1 m2 m3
      have R := (((hres3.set0 (.slice none 0 0)).set1 (.slice none 0 0)).set2 (.slice none 0 0)).set3 (.slice none 0 0)
      have q0 := R.c0
      have q1 := R.c1
      have q2 := R.c2
      have q3 := R.c3
      refine bodyPost_ret (v := .tuple #[.agg #[.slice none 0 0, .slice none 0 0, .slice none 0 0, .slice none 0 0], .int .i64 2]) (by simp [results, Try.results50, go_sem, q0, q1, q2, q3]) rfl ⟨?_, (((hb3.setCell (Nat.le_refl _) _).setCell (Nat.le_refl _) _).setCell (Nat.le_refl _) _).setCell (Nat.le_refl _) _⟩
      rw [HD2.out]
      exact ⟨⟨.slice none 0 0, .slice none 0 0, .slice none 0 0, .slice none 0 0⟩, rfl, no_reads _ _⟩
    | false =>
      have hfr := hx3.reads
      have C := hid (isScript_any f _ w3 hfr hfs)
      clear hfr
      go_wp2_with fail
      refine C.out.mono ?_
      rintro e w4 ⟨rfl, hb4⟩
      have hres4 : F4 w4 w.heap.size 86 _ _ _ _ := (hb4.block _ hres3.lt).trans hres3
      have hmv4 : F4 w4 w1.heap.size 86 _ _ _ _ := (hb4.block _ hmv3.lt).trans hmv3
      have hx4 := hx3.none (grown_below hb4 none)
      have hbw := hb3.trans (hb4.mono hb3.size)
      clear C hb4 hb3 hx3 hres3 hmv3 d2 m0 m1 m2 m3 hr3
      have m0 := hmv4.c0
      have m1 := hmv4.c1
      have m2 := hmv4.c2
      have m3 := hmv4.c3
      have g0 := hres4.c0
      have g1 := hres4.c1
      have g2 := hres4.c2
      have g3 := hres4.c3
      have e0 := hres4.fz 0
      have e1 := hres4.fz 1
      have e2 := hres4.fz 2
      have e3 := hres4.fz 3
      by_cases hsc : isScript f = true
      · have HD2 : Hid (readScript b ki fu = (f, 0)) := by show _ = _; rw [HD.out]; simp [hsc]
        clear HD
        rw [hsc]
        go_wp2
        clear g0 g1 g2 g3 e0 e1 e2 e3 m0 m1 m2 m3
        have R := (((hres4.set0 (.slice x1 f.params.length y1)).set1 (.slice x2 f.results.length y2)).set2 (.slice x3 f.locals.length y3)).set3 (.slice x4 f.code.length y4)
        have q0 := R.c0
        have q1 := R.c1
        have q2 := R.c2
        have q3 := R.c3
        refine bodyPost_ret (v := .tuple #[.agg #[.slice x1 f.params.length y1, .slice x2 f.results.length y2, .slice x3 f.locals.length y3, .slice x4 f.code.length y4], .int .i64 0]) (by simp [results, Try.results50, go_sem, q0, q1, q2, q3]) rfl ⟨?_, (((hbw.setCell (Nat.le_refl _) _).setCell (Nat.le_refl _) _).setCell (Nat.le_refl _) _).setCell (Nat.le_refl _) _⟩
        rw [HD2.out]
        refine ⟨⟨.slice x1 f.params.length y1, .slice x2 f.results.length y2, .slice x3 f.locals.length y3, .slice x4 f.code.length y4⟩, rfl, ?_⟩
        exact ((((hx4.kept (grown_set _ _ _ _) (by omega)).kept (grown_set _ _ _ _) (by omega)).kept (grown_set _ _ _ _) (by omega)).kept (grown_set _ _ _ _) (by omega)).base (by omega)
      · rw [Bool.not_eq_true] at hsc
        have HD2 : Hid (readScript b ki fu = (⟨[], [], [], []⟩, 2)) := by show _ = _; rw [HD.out]; simp [hsc]
        clear HD
        rw [hsc]
        go_wp2
        clear g0 g1 g2 g3 e0 e1 e2 e3 m0 m1 m2 m3
        have R := (((hres4.set0 (.slice none 0 0)).set1 (.slice none 0 0)).set2 (.slice none 0 0)).set3 (.slice none 0 0)
        have q0 := R.c0
        have q1 := R.c1
        have q2 := R.c2
        have q3 := R.c3
        refine bodyPost_ret (v := .tuple #[.agg #[.slice none 0 0, .slice none 0 0, .slice none 0 0, .slice none 0 0], .int .i64 2]) (by simp [results, Try.results50, go_sem, q0, q1, q2, q3]) rfl ⟨?_, (((hbw.setCell (Nat.le_refl _) _).setCell (Nat.le_refl _) _).setCell (Nat.le_refl _) _).setCell (Nat.le_refl _) _⟩
        rw [HD2.out]
        exact ⟨⟨.slice none 0 0, .slice none 0 0, .slice none 0 0, .slice none 0 0⟩, rfl, no_reads _ _⟩
end Go.Proofs.Ytjamgmbdilkbcaa

/- A ledger; the run without the slices of the code. -/
namespace Go.Proofs.Ytjamgmbdilkbcaa
open Go.RowKit Mc

namespace Mc
/-- without the slices of the code. -/
def er (M : Mc) : Mc := { M with cv := fun _ => undef }
theorem er_setI (M : Mc) (i : Nat) (n : Int) : (M.setI i n).er = M.er.setI i n := rfl
theorem er_setB (M : Mc) (i : Nat) (b : Bool) : (M.setB i b).er = M.er.setB i b := rfl
theorem er_giveUp (M : Mc) (e : Int) : (M.giveUp e).er = M.er.giveUp e := rfl
theorem er_setA (M : Mc) (a b : Int) (c : Bool) (n : Int) : (M.setA a b c n).er = M.er.setA a b c n := rfl
theorem er_put (M : Mc) (d : Nat) (n : Int) : (M.put d n).er = M.er.put d n := by
  unfold put; show er (if M.hgt d < 16 then _ else _) = if M.hgt d < 16 then _ else _; split <;> rfl
theorem er_pop (M : Mc) (d : Nat) : (M.pop d).er = M.er.pop d := by
  unfold pop; show er (if M.hgt d < 1 then _ else _) = if M.hgt d < 1 then _ else _; split <;> rfl
theorem er_keep (M : Mc) (d : Nat) (p n : Int) : (M.keep d p n).er = M.er.keep d p n := by
  unfold keep; split <;> rfl
theorem er_top (M : Mc) (d : Nat) : M.er.top d = M.top d := rfl
theorem er_acc (M : Mc) : M.er.acc = M.acc := rfl
theorem er_who (M : Mc) : M.er.who = M.who := rfl
theorem er_setC (M : Mc) (d : Nat) (v : Value) (c : List (Int × Int)) : (M.setC d v c).er = M.er.setC d undef c := by
  unfold setC er
  simp only [Mc.mk.injEq, true_and, and_true]
  funext j
  split <;> rfl
theorem er_zeros : ∀ (n o : Nat) (M : Mc), (M.zeros o n).er = M.er.zeros o n
  | 0, _, _ => rfl
  | n + 1, o, M => er_zeros n (o + 1) (M.setI o 0)
theorem er_fresh (M : Mc) (d : Nat) (v : Value) (c : List (Int × Int)) : (M.fresh d v c).er = M.er.fresh d undef c := by
  unfold fresh; rw [er_zeros, er_setC]
theorem er_endN (M : Mc) (d : Nat) : ∀ k, (endN M d k).er = endN M.er d k
  | 0 => rfl
  | k + 1 => by
    show ((endN M d k).put (d - 1) ((endN M d k).stk d k)).er = (endN M.er d k).put (d - 1) ((endN M.er d k).stk d k)
    rw [er_put, ← er_endN M d k]
    rfl
theorem er_end (M : Mc) (d : Nat) : (M.end_ d).er = M.er.end_ d := by
  unfold end_
  split
  · rfl
  · rw [er_endN]; rfl
theorem er_begN (d : Nat) : ∀ (k : Nat) (M : Mc), (begN d k M).er = begN d k M.er
  | 0, _ => rfl
  | k + 1, M => by
    show (begN d k ((M.pop d).keep (d + 1) k (M.top d))).er = begN d k ((M.er.pop d).keep (d + 1) k (M.top d))
    rw [er_begN d k, er_keep, er_pop]
theorem er_begin (m : Pu.Md) (v : Value) (M : Mc) (d : Nat) (c : Int) : (Mc.begin m v M d c).er = Mc.begin m undef M.er d c := by
  unfold Mc.begin
  split
  · rfl
  split
  · rfl
  · rw [er_setI, er_begN, er_fresh]
theorem er_ite {p : Prop} [Decidable p] (a b : Mc) : er (if p then a else b) = if p then er a else er b := by split <;> rfl
theorem er_pop_top (M : Mc) (d : Nat) : (M.er.pop d).top d = (M.pop d).top d := by rw [← er_pop, er_top]
theorem er_pop_acc (M : Mc) (d : Nat) : (M.er.pop d).acc = (M.pop d).acc := by rw [← er_pop, er_acc]
theorem er_pop_acc2 (M : Mc) (d : Nat) : ((M.er.pop d).pop d).acc = ((M.pop d).pop d).acc := by rw [← er_pop, ← er_pop, er_acc]
theorem er_held (M : Mc) (d : Nat) (p : Int) : M.er.heldAt d p = M.heldAt d p := rfl
theorem er_reckon (M : Mc) (d : Nat) (op : Int) : (M.reckon d op).er = M.er.reckon d op := by
  unfold reckon
  simp only [er_ite, er_giveUp, er_put, er_pop, er_pop_top, er_top]
theorem er_fetch (M : Mc) (d : Nat) (k : Int) : (M.fetch d k).er = M.er.fetch d k := by
  unfold fetch
  simp only [er_ite, er_giveUp, er_put, er_setA, er_acc, er_who]
  rfl
theorem er_store (M : Mc) (d : Nat) (k : Int) : (M.store d k).er = M.er.store d k := by
  unfold store
  simp only [er_ite, er_giveUp, er_setA, er_pop, er_pop_top, er_top, er_pop_acc2]
theorem er_has (M : Mc) (d : Nat) (k : Int) : (M.has d k).er = M.er.has d k := by
  unfold has
  simp only [er_ite, er_giveUp, er_put, er_pop, er_top, er_pop_acc]
theorem er_do (M : Mc) (d : Nat) (op a : Int) : (M.do_ d op a).er = M.er.do_ d op a := by
  unfold do_
  simp only [er_ite, er_setI, er_put, er_pop, er_keep, er_top, er_held]
  rfl
theorem er_act (m : Pu.Md) (xv : Nat → Value) (M : Mc) (d : Nat) (x : Int × Int) : (act m xv M d x).er = act m (fun _ => undef) M.er d x := by
  unfold act
  simp only [er_ite, er_end, er_begin, er_reckon, er_fetch, er_store, er_has, er_do, er_giveUp, er_setI]
theorem er_step (m : Pu.Md) (xv : Nat → Value) (M : Mc) : (step m xv M).er = step m (fun _ => undef) M.er := by
  unfold step
  simp only [er_ite, er_act, er_giveUp, er_setI]
  rfl
theorem er_go (m : Pu.Md) (xv : Nat → Value) (gas : Int) : ∀ (n : Nat) (M : Mc), (go m xv gas n M).er = go m (fun _ => undef) gas n M.er
  | 0, _ => rfl
  | n + 1, M => by
    unfold go
    simp only [er_ite, er_go, er_step]
    rfl
theorem er_goOn (m : Pu.Md) (xv : Nat → Value) (gas : Int) (M : Mc) : (goOn m xv gas M).er = goOn m (fun _ => undef) gas M.er := by
  unfold goOn
  rw [← er_go]
  simp only [er_ite, er_giveUp]
  rfl
end Mc

/-- the run of a script. -/
def runM (m : Pu.Md) (f : Pu.Fn) (A : Nat → Bool × Int) (who gas : Int) : Mc := Mc.goOn m (fun _ => undef) gas ((machine0 who A).er.fresh 0 undef f.code)
theorem runM_of (m : Pu.Md) (f : Pu.Fn) (A : Nat → Bool × Int) (who gas : Int) (xv : Nat → Value) (cv : Value) : (Mc.goOn m xv gas ((machine0 who A).fresh 0 cv f.code)).er = runM m f A who gas := by
  unfold runM; rw [er_goOn, er_fresh]

/-- a ledger in memory. -/
structure Lg (w : World) (q : Nat) (m : Pu.Md) (A : Nat → Bool × Int) : Prop where
  ex : ∃ mk mv Hs, w.heap[q]? = some (.cells (#[mk, mv] ++ Hs) 114 (0, 0)) ∧ RowA Hs A ∧ MdR w q mk mv m

/-- what Run says. -/
def RunSays (m : Pu.Md) (A : Nat → Bool × Int) (b : ByteArray) (who gas : Int) (A' : Nat → Bool × Int) (e c u : Int) : Prop :=
  ((who < 0 ∨ 8 ≤ who ∨ gas < 0 ∨ 10000 < gas) ∧ A' = A ∧ e = 4 ∧ c = 0 ∧ u = 0) ∨
  (¬ (who < 0 ∨ 8 ≤ who ∨ gas < 0 ∨ 10000 < gas) ∧ ¬ (readScript b m.kinds.length m.funcs.length).2 = 0 ∧ A' = A ∧ e = (readScript b m.kinds.length m.funcs.length).2 ∧ c = 0 ∧ u = 0) ∨
  (¬ (who < 0 ∨ 8 ≤ who ∨ gas < 0 ∨ 10000 < gas) ∧ (readScript b m.kinds.length m.funcs.length).2 = 0 ∧ ¬ Fl.Sound m (readScript b m.kinds.length m.funcs.length).1 ∧ A' = A ∧ e = 3 ∧ c = 0 ∧ u = 0) ∨
  (¬ (who < 0 ∨ 8 ≤ who ∨ gas < 0 ∨ 10000 < gas) ∧ (readScript b m.kinds.length m.funcs.length).2 = 0 ∧ Fl.Sound m (readScript b m.kinds.length m.funcs.length).1 ∧
    A' = (if (runM m (readScript b m.kinds.length m.funcs.length).1 A who gas).err = 0 then (runM m (readScript b m.kinds.length m.funcs.length).1 A who gas).acc else A) ∧
    e = (runM m (readScript b m.kinds.length m.funcs.length).1 A who gas).err ∧ c = (runM m (readScript b m.kinds.length m.funcs.length).1 A who gas).code ∧ u = (runM m (readScript b m.kinds.length m.funcs.length).1 A who gas).used)

/-- the first two cells of a ledger are kept. -/
def HeadKept (w w' : World) (q : Nat) : Prop := ∀ mk mv Hs, w.heap[q]? = some (.cells (#[mk, mv] ++ Hs) 114 (0, 0)) → ∃ Hs', w'.heap[q]? = some (.cells (#[mk, mv] ++ Hs') 114 (0, 0))
theorem head_below {w w' : World} {q : Nat} (hb : Below w.heap.size w w') (hq : q < w.heap.size) : HeadKept w w' q := fun _ _ Hs h => ⟨Hs, (hb.block q hq).trans h⟩
theorem head_inj {a b mk mv : Value} {Hs Hs0 : Array Value} (h : #[a, b] ++ Hs = #[mk, mv] ++ Hs0) : a = mk ∧ b = mv ∧ Hs = Hs0 := by
  have h2 := congrArg Array.toList h
  simp only [Array.toList_append, List.cons_append, List.nil_append, List.cons.injEq] at h2
  exact ⟨h2.1, h2.2.1, Array.toList_inj.1 h2.2.2⟩
theorem head_of {w w' : World} {q : Nat} {a b : Value} {Hs HX : Array Value} (h : w.heap[q]? = some (.cells (#[a, b] ++ Hs) 114 (0, 0))) (h' : w'.heap[q]? = some (.cells (#[a, b] ++ HX) 114 (0, 0))) : HeadKept w w' q := fun mk mv Hs0 h0 => by
  rw [h] at h0
  simp only [Option.some.injEq, Obj.cells.injEq, and_true] at h0
  obtain ⟨rfl, rfl, _⟩ := head_inj h0
  exact ⟨HX, h'⟩

/-- what Run leaves. -/
def RunOut (w w' : World) (q : Nat) (m : Pu.Md) (A : Nat → Bool × Int) (b : ByteArray) (who gas : Int) (r : Ending) : Prop :=
  ∃ A' e c u, r = .returned (.agg #[.int .i64 e, .int .i64 c, .int .i64 u]) ∧ RunSays m A b who gas A' e c u ∧ Lg w' q m A' ∧ w.grownBy w' (some q) ∧ HeadKept w w' q

theorem isFn_ok {m : Pu.Md} {f : Pu.Fn} (hh : Pu.isFn f m.kinds.length m.funcs.length = true) : FnOk m f := by
  simp only [Pu.isFn, Pu.isList, Pu.isCode, Bool.and_eq_true, decide_eq_true_eq, List.all_eq_true] at hh
  obtain ⟨⟨p1, _⟩, ⟨r1, _⟩, ⟨l1, _⟩, c1, c2, c3⟩ := hh
  have hi : ∀ i, i < f.code.length → Pu.isInstr m.kinds.length m.funcs.length ((f.params.length : Int) + (f.locals.length : Int)) f.code.length (f.code.getD i (0, 0)) = true := fun i hi => by
    refine c3 _ ?_
    rw [List.getD_eq_getElem?_getD, List.getElem?_eq_getElem hi]
    exact List.getElem_mem hi
  refine ⟨by unfold Fl.places; rw [List.length_append]; omega, by omega, by omega, fun i hil => ?_, fun i hil hop => ?_⟩
  · have hx := hi i hil
    generalize f.code.getD i (0, 0) = x at *
    simp only [Pu.isInstr, Bool.and_eq_true, decide_eq_true_eq] at hx
    obtain ⟨⟨⟨x1, x2⟩, x3⟩, x4⟩ := hx
    refine ⟨⟨x1, x2⟩, fun hop => ?_, fun hop => ?_⟩
    · unfold Pu.argLo at x3
      unfold Pu.argHi at x4
      rw [if_neg (by omega)] at x3
      rw [if_neg (by omega), if_neg (by omega), if_pos hop] at x4
      unfold Fl.places
      rw [List.length_append]
      omega
    · unfold Pu.argLo at x3
      unfold Pu.argHi at x4
      rw [if_neg (by omega)] at x3
      rw [if_neg (by omega), if_neg (by omega), if_neg (by omega), if_neg (by omega), if_pos hop] at x4
      omega
  · have hx := hi i hil
    generalize f.code.getD i (0, 0) = x at *
    simp only [Pu.isInstr, Bool.and_eq_true, decide_eq_true_eq] at hx
    obtain ⟨⟨⟨x1, x2⟩, x3⟩, x4⟩ := hx
    unfold Pu.argLo at x3
    rw [if_neg (by omega)] at x3
    exact x3

theorem script_ok {b : ByteArray} {m : Pu.Md} (h : (readScript b m.kinds.length m.funcs.length).2 = 0) : Pu.isFn (readScript b m.kinds.length m.funcs.length).1 m.kinds.length m.funcs.length = true := by
  unfold readScript at h ⊢
  split at h
  · exact absurd h (by decide)
  rename_i hl
  split at h
  · exact absurd h (by decide)
  rename_i hb
  rw [if_neg hl, if_neg hb]
  have h2 : (Pu.func b m.kinds.length m.funcs.length (0, false)).2.2 = false := by
    have : ¬ (Pu.atEnd b (Pu.func b m.kinds.length m.funcs.length (0, false)).2).2 = true := fun hh => hb (.inl hh)
    unfold Pu.atEnd at this
    split at this
    · exact absurd rfl this
    · simpa using this
  exact (Pu.func_ok h2).2.2
end Go.Proofs.Ytjamgmbdilkbcaa
