import Derived.Test.YtjamgmbdilkbcaaLotChecked06
import Derived.Deep.RegionHeld3
/- same modules are the same. -/
namespace Go.Proofs.Ytjamgmbdilkbcaa
open Go.RowKit

theorem below_drewN {B : Nat} {a w : World} (h : Below B a w) (n : Nat) : Below B a (w.drewN n) := ⟨h.os, h.tape, h.output, h.size, h.block⟩

set_option maxHeartbeats 400000 in
theorem ints_same (l : List Int) (v v' : Value) (B : Nat) (w : World) (h : IntsR w B v l) (h' : IntsR w B v' l) (hl : l.length ≤ maxLen) :
    Calls Try.prog 46 #[v, v'] w fun e w' => e = .returned (.bool true) ∧ Below B w w' ∧ w'.heap = w.heap := by
  obtain ⟨ao, cap, b, off, rfl, h1, h2⟩ := h
  obtain ⟨ao', cap', b', off', rfl, h1', h2'⟩ := h'
  have H1 : Hid _ := h1
  have H2 : Hid _ := h2
  have H1' : Hid _ := h1'
  have H2' : Hid _ := h2'
  clear h1 h2 h1' h2'
  unfold maxLen at hl
  go_enter Try.func46, Try.ntmps46
  go_wp2
  go_loopw [5] (fun i wr => ∃ k : Nat, k ≤ l.length ∧ i = .int .i64 k ∧ Below B w wr ∧ wr.heap = w.heap) (fun i _ => l.length - (intOf i).toNat)
  case atStart => exact ⟨0, Nat.zero_le _, rfl, Below.refl _ _, rfl⟩
  case round =>
    obtain ⟨k, hk, rfl, hb, hh⟩ := hrel
    have HH : Hid _ := hh
    clear hh
    by_cases hlt : k < l.length
    · obtain ⟨rfl, hbB⟩ := H1.out (by omega)
      obtain ⟨rfl, hbB'⟩ := H1'.out (by omega)
      have c1 := (hb.cell (p := ⟨b, off + k, none⟩) hbB).trans (H2.out k hlt)
      have c2 := (hb.cell (p := ⟨b', off' + k, none⟩) hbB').trans (H2'.out k hlt)
      generalize l.getD k 0 = x at *
      go_wp2
      go_quiet (fail)
      go_wp2
      go_roundw
      case rel => exact ⟨k + 1, hlt, by go_num, below_drewN hb _, HH.out⟩
      case measure => simp [intOf]; omega
    · go_wp2
      go_ret
      exact ⟨rfl, hb, HH.out⟩

theorem IntsR.heap {w w' : World} {B : Nat} {v : Value} {l : List Int} (h : IntsR w B v l) (hh : w'.heap = w.heap) : IntsR w' B v l := by
  obtain ⟨ao, cap, b, off, hv, h1, h2⟩ := h
  refine ⟨ao, cap, b, off, hv, h1, fun j hj => ?_⟩
  rw [World.cell?_of_block (w := w) (by rw [hh])]
  exact h2 j hj

theorem F4.heap {w w' : World} {q : Nat} {t : TypeId} {x0 x1 x2 x3 : Value} (h : F4 w q t x0 x1 x2 x3) (hh : w'.heap = w.heap) : F4 w' q t x0 x1 x2 x3 := by unfold F4; rw [hh]; exact h
theorem F2.heap {w w' : World} {q : Nat} {t : TypeId} {x0 x1 : Value} (h : F2 w q t x0 x1) (hh : w'.heap = w.heap) : F2 w' q t x0 x1 := by unfold F2; rw [hh]; exact h
theorem CodeR.heap {w w' : World} {B : Nat} {v : Value} {l : List (Int × Int)} (h : CodeR w B v l) (hh : w'.heap = w.heap) : CodeR w' B v l := by
  obtain ⟨ao, cap, b, off, hv, h1, h2⟩ := h
  refine ⟨ao, cap, b, off, hv, h1, fun j hj => ?_⟩
  have e : ∀ p : Addr, w'.cell? p = w.cell? p := fun p => World.cell?_of_block (by rw [hh])
  rw [e, e]
  exact h2 j hj
theorem FnR.heap {w w' : World} {B : Nat} {x : FV} {f : Pu.Fn} (h : FnR w B x f) (hh : w'.heap = w.heap) : FnR w' B x f :=
  ⟨h.p.heap hh, h.r.heap hh, h.l.heap hh, h.c.heap hh, h.np, h.nr, h.nl, h.nc⟩
theorem two_allocs (w : World) (a b : Array Value) (t : TypeId) : ((w.alloc (.cells a t)).alloc (.cells b t)).heap[w.heap.size]? = some (.cells a t (0, 0)) ∧ ((w.alloc (.cells a t)).alloc (.cells b t)).heap[w.heap.size + 1]? = some (.cells b t (0, 0)) := by
  constructor
  · rw [Below.heap_alloc _ _ _ (by simp)]; exact heap_alloc_new w _
  · have := heap_alloc_new (w.alloc (.cells a t)) (.cells b t); simpa using this

set_option maxRecDepth 100000 in
set_option maxHeartbeats 2000000 in
theorem same_same (m : Pu.Md) (k v k' v' : Value) (w : World) (h : MdR w w.heap.size k v m) (h' : MdR w w.heap.size k' v' m) :
    Calls Try.prog 17 #[.agg #[k, v], .agg #[k', v']] w fun e w' => e = .returned (.bool true) ∧ Below w.heap.size w w' := by
  obtain ⟨a1, c1, rfl⟩ := h.k.shape
  obtain ⟨a1', c1', rfl⟩ := h'.k.shape
  have hnf := h.nf
  unfold maxLen at hnf
  have hv := h.v
  have hv' := h'.v
  obtain ⟨ao, cap, b, off, rfl, h1, h2⟩ := hv
  obtain ⟨ao', cap', b', off', rfl, h1', h2'⟩ := hv'
  have H1 : Hid _ := h1
  have H2 : Hid _ := h2
  have H1' : Hid _ := h1'
  have H2' : Hid _ := h2'
  clear h1 h2 h1' h2'
  have hb0 : Below w.heap.size w ((w.alloc (.cells #[.slice a1 m.kinds.length c1, .slice ao m.funcs.length cap] 33)).alloc (.cells #[.slice a1' m.kinds.length c1', .slice ao' m.funcs.length cap'] 33)) :=
    ((Below.refl w.heap.size w).alloc (Nat.le_refl _) _).alloc (by simp) _
  have x0 : F2 ((w.alloc (.cells #[.slice a1 m.kinds.length c1, .slice ao m.funcs.length cap] 33)).alloc (.cells #[.slice a1' m.kinds.length c1', .slice ao' m.funcs.length cap'] 33)) w.heap.size 33 (.slice a1 m.kinds.length c1) (.slice ao m.funcs.length cap) :=
    F2.kept (w := w.alloc (.cells #[.slice a1 m.kinds.length c1, .slice ao m.funcs.length cap] 33)) (heap_alloc_new w _) (World.grownBy_alloc _ _ none) (by simp)
  have x1 : F2 ((w.alloc (.cells #[.slice a1 m.kinds.length c1, .slice ao m.funcs.length cap] 33)).alloc (.cells #[.slice a1' m.kinds.length c1', .slice ao' m.funcs.length cap'] 33)) (w.heap.size + 1) 33 (.slice a1' m.kinds.length c1') (.slice ao' m.funcs.length cap') := by
    have := heap_alloc_new (w.alloc (.cells #[.slice a1 m.kinds.length c1, .slice ao m.funcs.length cap] 33)) (.cells #[.slice a1' m.kinds.length c1', .slice ao' m.funcs.length cap'] 33)
    simpa [F2] using this
  have hk0 := h.k.below hb0
  have hk0' := h'.k.below hb0
  have hnk := h.nk
  clear h h'
  go_enter Try.func17, Try.ntmps17
  go_wp2_with fail
  refine (ints_same m.kinds _ _ _ _ hk0 hk0' hnk).mono ?_
  rintro e w1 ⟨rfl, hbn, hh⟩
  have hb1 := hb0.trans hbn
  have y0 : F2 w1 w.heap.size 33 (.slice a1 m.kinds.length c1) (.slice ao m.funcs.length cap) := by unfold F2; rw [hh]; exact x0
  have y1 : F2 w1 (w.heap.size + 1) 33 (.slice a1' m.kinds.length c1') (.slice ao' m.funcs.length cap') := by unfold F2; rw [hh]; exact x1
  clear hb0 x0 x1 hk0 hk0' hbn hh
  have d0 := y0.c1
  have d1 := y1.c1
  go_wp2
  clear d0 d1
  go_loopw [6] (fun i wr => ∃ k : Nat, k ≤ m.funcs.length ∧ i = .int .i64 k ∧ Below w.heap.size w wr ∧ F2 wr w.heap.size 33 (.slice a1 m.kinds.length c1) (.slice ao m.funcs.length cap) ∧ F2 wr (w.heap.size + 1) 33 (.slice a1' m.kinds.length c1') (.slice ao' m.funcs.length cap')) (fun i _ => m.funcs.length - (intOf i).toNat)
  case atStart => exact ⟨0, Nat.zero_le _, rfl, hb1, y0, y1⟩
  case round =>
    obtain ⟨k, hk, rfl, hb, z0, z1⟩ := hrel
    clear hb1 y0 y1
    have d0 := z0.c1
    have d1 := z1.c1
    by_cases hlt : k < m.funcs.length
    · obtain ⟨rfl, hbB⟩ := H1.out (by omega)
      obtain ⟨rfl, hbB'⟩ := H1'.out (by omega)
      obtain ⟨x, g0, g1, g2, g3, hx⟩ := H2.out k hlt
      obtain ⟨x', g0', g1', g2', g3', hx'⟩ := H2'.out k hlt
      obtain ⟨x1, y1, x2, y2, x3, y3, x4, y4, rfl⟩ := hx.shape
      obtain ⟨x1', y1', x2', y2', x3', y3', x4', y4', rfl⟩ := hx'.shape
      have k0 := (hb.cell (p := ⟨b, off + k * 4, none⟩) hbB).trans g0
      have k1 := (hb.cell (p := ⟨b, off + k * 4 + 1, none⟩) hbB).trans g1
      have k2 := (hb.cell (p := ⟨b, off + k * 4 + 2, none⟩) hbB).trans g2
      have k3 := (hb.cell (p := ⟨b, off + k * 4 + 3, none⟩) hbB).trans g3
      have k0' := (hb.cell (p := ⟨b', off' + k * 4, none⟩) hbB').trans g0'
      have k1' := (hb.cell (p := ⟨b', off' + k * 4 + 1, none⟩) hbB').trans g1'
      have k2' := (hb.cell (p := ⟨b', off' + k * 4 + 2, none⟩) hbB').trans g2'
      have k3' := (hb.cell (p := ⟨b', off' + k * 4 + 3, none⟩) hbB').trans g3'
      have hf := hx.below hb
      have hf' := hx'.below hb
      clear g0 g1 g2 g3 g0' g1' g2' g3' hx hx'
      generalize m.funcs.getD k ⟨[], [], [], []⟩ = f at *
      simp only at *
      have s1 := z1.lt
      have s0 := z0.lt
      have s2 : b < wr.heap.size := by omega
      have s3 : b' < wr.heap.size := by omega
      obtain ⟨W0, hW0⟩ : ∃ W0, W0 = (wr.alloc (.cells #[.slice x1 f.params.length y1, .slice x2 f.results.length y2, .slice x3 f.locals.length y3, .slice x4 f.code.length y4] 86)).alloc (.cells #[.slice x1' f.params.length y1', .slice x2' f.results.length y2', .slice x3' f.locals.length y3', .slice x4' f.code.length y4'] 86) := ⟨_, rfl⟩
      have hbW : Below w.heap.size w W0 := by rw [hW0]; exact (hb.alloc (Nat.le_of_lt s0) _).alloc (by simp only [World.size_alloc]; omega) _
      have hgW : wr.grownBy W0 none := by rw [hW0]; exact grown_trans (World.grownBy_alloc _ _ _) (World.grownBy_alloc _ _ _)
      have z0W := z0.kept hgW (by simp)
      have z1W := z1.kept hgW (by simp)
      have p0W : F4 W0 wr.heap.size 86 (.slice x1 f.params.length y1) (.slice x2 f.results.length y2) (.slice x3 f.locals.length y3) (.slice x4 f.code.length y4) := by rw [hW0]; exact (two_allocs wr _ _ _).1
      have p1W : F4 W0 (wr.heap.size + 1) 86 (.slice x1' f.params.length y1') (.slice x2' f.results.length y2') (.slice x3' f.locals.length y3') (.slice x4' f.code.length y4') := by rw [hW0]; exact (two_allocs wr _ _ _).2
      have hfW : FnR W0 w.heap.size _ f := hf.below (by rw [hW0]; exact ((Below.refl w.heap.size wr).alloc (Nat.le_of_lt s0) _).alloc (by simp only [World.size_alloc]; omega) _)
      have hfW' : FnR W0 w.heap.size _ f := hf'.below (by rw [hW0]; exact ((Below.refl w.heap.size wr).alloc (Nat.le_of_lt s0) _).alloc (by simp only [World.size_alloc]; omega) _)
      have HW : Hid _ := hW0
      clear hW0 hf hf' hgW
      go_wp2_with fail
      rw [← HW.out]
      clear HW k0 k1 k2 k3 k0' k1' k2' k3' d0 d1 z0 z1 hb
      refine (ints_same f.params _ _ _ _ hfW.p hfW'.p hfW.np).mono ?_
      rintro e w2 ⟨rfl, hb2, hh2⟩
      have hbW2 := hbW.trans hb2
      have p02 := p0W.heap hh2
      have p12 := p1W.heap hh2
      have HH2 : Hid _ := hh2
      clear hh2 hb2 hbW
      have d0 := p02.c1
      have d1 := p12.c1
      go_wp2_with fail
      clear d0 d1 p02 p12
      refine (ints_same f.results _ _ _ _ (hfW.r.heap HH2.out) (hfW'.r.heap HH2.out) hfW.nr).mono ?_
      rintro e w3 ⟨rfl, hb3, hh3⟩
      have hbW3 := hbW2.trans hb3
      have HH3 : Hid _ := hh3.trans HH2.out
      clear hh3 hb3 hbW2 HH2
      have p02 := p0W.heap HH3.out
      have p12 := p1W.heap HH3.out
      have d0 := p02.c2
      have d1 := p12.c2
      go_wp2_with fail
      clear d0 d1 p02 p12
      refine (ints_same f.locals _ _ _ _ (hfW.l.heap HH3.out) (hfW'.l.heap HH3.out) hfW.nl).mono ?_
      rintro e w4 ⟨rfl, hb4, hh4⟩
      have hbW4 := hbW3.trans hb4
      have HH4 : Hid _ := hh4.trans HH3.out
      clear hh4 hb4 hbW3 HH3
      have p0 := p0W.heap HH4.out
      have p1 := p1W.heap HH4.out
      have z0 := z0W.heap HH4.out
      have z1 := z1W.heap HH4.out
      have hc := hfW.c.heap HH4.out
      have hc' := hfW'.c.heap HH4.out
      have hnc := hfW.nc
      unfold maxLen at hnc
      clear p0W p1W z0W z1W hfW hfW' HH4
      have d0 := p0.c3
      have d1 := p1.c3
      go_wp2
      clear d0 d1
      obtain ⟨u, cu, ub, uo, hu, U1, U2⟩ := hc
      obtain ⟨u', cu', ub', uo', hu', U1', U2'⟩ := hc'
      simp only [Value.slice.injEq, true_and] at hu hu'
      obtain ⟨rfl, rfl⟩ := hu
      obtain ⟨rfl, rfl⟩ := hu'
      have U1 : Hid _ := U1
      have U2 : Hid _ := U2
      have U1' : Hid _ := U1'
      have U2' : Hid _ := U2'
      go_loopw [12] (fun i ws => ∃ j : Nat, j ≤ f.code.length ∧ i = .int .i64 j ∧ Below w.heap.size w ws ∧ ws.heap = w4.heap) (fun i _ => f.code.length - (intOf i).toNat)
      case atStart => exact ⟨0, Nat.zero_le _, rfl, hbW4, rfl⟩
      case round =>
        obtain ⟨j, hj, rfl, hbs, hhs⟩ := hrel
        have HHS : Hid _ := hhs
        have q0 := (p0.heap hhs).c3
        have q1 := (p1.heap hhs).c3
        by_cases hjl : j < f.code.length
        · obtain ⟨rfl, hub⟩ := U1.out (by omega)
          obtain ⟨rfl, hub'⟩ := U1'.out (by omega)
          have e : ∀ p : Addr, wr.cell? p = w4.cell? p := fun p => World.cell?_of_block (by rw [hhs])
          have r0 := (e _).trans (U2.out j hjl).1
          have r1 := (e _).trans (U2.out j hjl).2
          have r0' := (e _).trans (U2'.out j hjl).1
          have r1' := (e _).trans (U2'.out j hjl).2
          clear e hhs
          generalize f.code.getD j (0, 0) = y at *
          go_wp2
          go_quiet (fail)
          go_wp2
          go_roundw
          case rel => exact ⟨j + 1, hjl, by go_num, below_drewN hbs _, HHS.out⟩
          case measure => simp [intOf]; omega
        · clear hhs
          have z0s := z0.heap HHS.out
          have z1s := z1.heap HHS.out
          go_wp2
          go_roundw
          case rel => exact ⟨k + 1, hlt, by go_num, hbs, z0s, z1s⟩
          case measure => simp [intOf]; omega
    · go_wp2
      go_ret
      exact ⟨rfl, hb⟩
end Go.Proofs.Ytjamgmbdilkbcaa

/- The law's own comparing of modules. -/
namespace Go.Proofs.Ytjamgmbdilkbcaa
open Go.RowKit

set_option maxHeartbeats 400000 in
theorem sameInts_same (l : List Int) (v v' : Value) (B : Nat) (w : World) (h : IntsR w B v l) (h' : IntsR w B v' l) (hl : l.length ≤ maxLen) :
    Calls Try.prog 65 #[v, v'] w fun e w' => e = .returned (.bool true) ∧ Below B w w' ∧ w'.heap = w.heap := by
  obtain ⟨ao, cap, b, off, rfl, h1, h2⟩ := h
  obtain ⟨ao', cap', b', off', rfl, h1', h2'⟩ := h'
  have H1 : Hid _ := h1
  have H2 : Hid _ := h2
  have H1' : Hid _ := h1'
  have H2' : Hid _ := h2'
  clear h1 h2 h1' h2'
  unfold maxLen at hl
  go_enter Try.func65, Try.ntmps65
  go_wp2
  go_loopw [5] (fun i wr => ∃ k : Nat, k ≤ l.length ∧ i = .int .i64 k ∧ Below B w wr ∧ wr.heap = w.heap) (fun i _ => l.length - (intOf i).toNat)
  case atStart => exact ⟨0, Nat.zero_le _, rfl, Below.refl _ _, rfl⟩
  case round =>
    obtain ⟨k, hk, rfl, hb, hh⟩ := hrel
    have HH : Hid _ := hh
    clear hh
    by_cases hlt : k < l.length
    · obtain ⟨rfl, hbB⟩ := H1.out (by omega)
      obtain ⟨rfl, hbB'⟩ := H1'.out (by omega)
      have c1 := (hb.cell (p := ⟨b, off + k, none⟩) hbB).trans (H2.out k hlt)
      have c2 := (hb.cell (p := ⟨b', off' + k, none⟩) hbB').trans (H2'.out k hlt)
      generalize l.getD k 0 = x at *
      go_wp2
      go_quiet (fail)
      go_wp2
      go_roundw
      case rel => exact ⟨k + 1, hlt, by go_num, below_drewN hb _, HH.out⟩
      case measure => simp [intOf]; omega
    · go_wp2
      go_ret
      exact ⟨rfl, hb, HH.out⟩

set_option maxHeartbeats 400000 in
theorem sameCode_same (l : List (Int × Int)) (v v' : Value) (B : Nat) (w : World) (h : CodeR w B v l) (h' : CodeR w B v' l) (hl : l.length ≤ maxLen) :
    Calls Try.prog 95 #[v, v'] w fun e w' => e = .returned (.bool true) ∧ Below B w w' ∧ w'.heap = w.heap := by
  obtain ⟨ao, cap, b, off, rfl, h1, h2⟩ := h
  obtain ⟨ao', cap', b', off', rfl, h1', h2'⟩ := h'
  have H1 : Hid _ := h1
  have H2 : Hid _ := h2
  have H1' : Hid _ := h1'
  have H2' : Hid _ := h2'
  clear h1 h2 h1' h2'
  unfold maxLen at hl
  go_enter Try.func95, Try.ntmps95
  go_wp2
  go_loopw [5] (fun i wr => ∃ k : Nat, k ≤ l.length ∧ i = .int .i64 k ∧ Below B w wr ∧ wr.heap = w.heap) (fun i _ => l.length - (intOf i).toNat)
  case atStart => exact ⟨0, Nat.zero_le _, rfl, Below.refl _ _, rfl⟩
  case round =>
    obtain ⟨k, hk, rfl, hb, hh⟩ := hrel
    have HH : Hid _ := hh
    clear hh
    by_cases hlt : k < l.length
    · obtain ⟨rfl, hbB⟩ := H1.out (by omega)
      obtain ⟨rfl, hbB'⟩ := H1'.out (by omega)
      have c1 := (hb.cell (p := ⟨b, off + k * 2, none⟩) hbB).trans (H2.out k hlt).1
      have c2 := (hb.cell (p := ⟨b, off + k * 2 + 1, none⟩) hbB).trans (H2.out k hlt).2
      have c3 := (hb.cell (p := ⟨b', off' + k * 2, none⟩) hbB').trans (H2'.out k hlt).1
      have c4 := (hb.cell (p := ⟨b', off' + k * 2 + 1, none⟩) hbB').trans (H2'.out k hlt).2
      generalize l.getD k (0, 0) = x at *
      go_wp2
      go_quiet (fail)
      go_wp2
      go_roundw
      case rel => exact ⟨k + 1, hlt, by go_num, below_drewN hb _, HH.out⟩
      case measure => simp [intOf]; omega
    · go_wp2
      go_ret
      exact ⟨rfl, hb, HH.out⟩

set_option maxHeartbeats 1000000 in
theorem sameFunc_same (f : Pu.Fn) (x x' : FV) (w : World) (h : FnR w w.heap.size x f) (h' : FnR w w.heap.size x' f) :
    Calls Try.prog 66 #[.agg #[x.p, x.r, x.l, x.c], .agg #[x'.p, x'.r, x'.l, x'.c]] w fun e w' => e = .returned (.bool true) ∧ Below w.heap.size w w' := by
  obtain ⟨x1, y1, x2, y2, x3, y3, x4, y4, rfl⟩ := h.shape
  obtain ⟨x1', y1', x2', y2', x3', y3', x4', y4', rfl⟩ := h'.shape
  obtain ⟨W0, hW0⟩ : ∃ W0, W0 = (w.alloc (.cells #[.slice x1 f.params.length y1, .slice x2 f.results.length y2, .slice x3 f.locals.length y3, .slice x4 f.code.length y4] 86)).alloc (.cells #[.slice x1' f.params.length y1', .slice x2' f.results.length y2', .slice x3' f.locals.length y3', .slice x4' f.code.length y4'] 86) := ⟨_, rfl⟩
  have hbW : Below w.heap.size w W0 := by rw [hW0]; exact ((Below.refl _ _).alloc (Nat.le_refl _) _).alloc (by simp) _
  have p0W : F4 W0 w.heap.size 86 (.slice x1 f.params.length y1) (.slice x2 f.results.length y2) (.slice x3 f.locals.length y3) (.slice x4 f.code.length y4) := by rw [hW0]; exact (two_allocs w _ _ _).1
  have p1W : F4 W0 (w.heap.size + 1) 86 (.slice x1' f.params.length y1') (.slice x2' f.results.length y2') (.slice x3' f.locals.length y3') (.slice x4' f.code.length y4') := by rw [hW0]; exact (two_allocs w _ _ _).2
  have hfW := h.below hbW
  have hfW' := h'.below hbW
  have HW : Hid _ := hW0
  clear hW0 h h'
  go_enter Try.func66, Try.ntmps66
  go_wp2_with fail
  rw [← HW.out]
  clear HW
  refine (sameInts_same f.params _ _ _ _ hfW.p hfW'.p hfW.np).mono ?_
  rintro e w2 ⟨rfl, hb2, hh2⟩
  have hbW2 := hbW.trans hb2
  have HH2 : Hid _ := hh2
  clear hh2 hb2 hbW
  have p02 := p0W.heap HH2.out
  have p12 := p1W.heap HH2.out
  have d0 := p02.c1
  have d1 := p12.c1
  go_wp2_with fail
  clear d0 d1 p02 p12
  refine (sameInts_same f.results _ _ _ _ (hfW.r.heap HH2.out) (hfW'.r.heap HH2.out) hfW.nr).mono ?_
  rintro e w3 ⟨rfl, hb3, hh3⟩
  have hbW3 := hbW2.trans hb3
  have HH3 : Hid _ := hh3.trans HH2.out
  clear hh3 hb3 hbW2 HH2
  have p02 := p0W.heap HH3.out
  have p12 := p1W.heap HH3.out
  have d0 := p02.c2
  have d1 := p12.c2
  go_wp2_with fail
  clear d0 d1 p02 p12
  refine (sameInts_same f.locals _ _ _ _ (hfW.l.heap HH3.out) (hfW'.l.heap HH3.out) hfW.nl).mono ?_
  rintro e w4 ⟨rfl, hb4, hh4⟩
  have hbW4 := hbW3.trans hb4
  have HH4 : Hid _ := hh4.trans HH3.out
  clear hh4 hb4 hbW3 HH3
  have p02 := p0W.heap HH4.out
  have p12 := p1W.heap HH4.out
  have d0 := p02.c3
  have d1 := p12.c3
  go_wp2_with fail
  clear d0 d1 p02 p12
  refine (sameCode_same f.code _ _ _ _ (hfW.c.heap HH4.out) (hfW'.c.heap HH4.out) hfW.nc).mono ?_
  rintro e w5 ⟨rfl, hb5, hh5⟩
  have hbW5 := hbW4.trans hb5
  clear hh5 hb5 hbW4 HH4 p0W p1W hfW hfW'
  go_wp2
  go_ret
  exact ⟨rfl, hbW5⟩

set_option maxRecDepth 100000 in
set_option maxHeartbeats 2000000 in
theorem sameModule_same (m : Pu.Md) (k v k' v' : Value) (w : World) (h : MdR w w.heap.size k v m) (h' : MdR w w.heap.size k' v' m) :
    Calls Try.prog 34 #[.agg #[k, v], .agg #[k', v']] w fun e w' => e = .returned (.bool true) ∧ Below w.heap.size w w' := by
  obtain ⟨a1, c1, rfl⟩ := h.k.shape
  obtain ⟨a1', c1', rfl⟩ := h'.k.shape
  have hnf := h.nf
  unfold maxLen at hnf
  have hv := h.v
  have hv' := h'.v
  obtain ⟨ao, cap, b, off, rfl, h1, h2⟩ := hv
  obtain ⟨ao', cap', b', off', rfl, h1', h2'⟩ := hv'
  have H1 : Hid _ := h1
  have H2 : Hid _ := h2
  have H1' : Hid _ := h1'
  have H2' : Hid _ := h2'
  clear h1 h2 h1' h2'
  obtain ⟨W0, hW0⟩ : ∃ W0, W0 = (w.alloc (.cells #[.slice a1 m.kinds.length c1, .slice ao m.funcs.length cap] 33)).alloc (.cells #[.slice a1' m.kinds.length c1', .slice ao' m.funcs.length cap'] 33) := ⟨_, rfl⟩
  have hb0 : Below w.heap.size w W0 := by rw [hW0]; exact ((Below.refl w.heap.size w).alloc (Nat.le_refl _) _).alloc (by simp) _
  have x0 : F2 W0 w.heap.size 33 (.slice a1 m.kinds.length c1) (.slice ao m.funcs.length cap) := by rw [hW0]; exact (two_allocs w _ _ _).1
  have x1 : F2 W0 (w.heap.size + 1) 33 (.slice a1' m.kinds.length c1') (.slice ao' m.funcs.length cap') := by rw [hW0]; exact (two_allocs w _ _ _).2
  have hk0 := h.k.below hb0
  have hk0' := h'.k.below hb0
  have hnk := h.nk
  have HW : Hid _ := hW0
  clear h h' hW0
  go_enter Try.func34, Try.ntmps34
  go_wp2_with fail
  rw [← HW.out]
  clear HW
  refine (sameInts_same m.kinds _ _ _ _ hk0 hk0' hnk).mono ?_
  rintro e w1 ⟨rfl, hbn, hh⟩
  have hb1 := hb0.trans hbn
  have y0 := x0.heap hh
  have y1 := x1.heap hh
  clear hb0 x0 x1 hk0 hk0' hbn hh
  have d0 := y0.c1
  have d1 := y1.c1
  go_wp2
  clear d0 d1
  go_loopw [6] (fun i wr => ∃ k : Nat, k ≤ m.funcs.length ∧ i = .int .i64 k ∧ Below w.heap.size w wr ∧ F2 wr w.heap.size 33 (.slice a1 m.kinds.length c1) (.slice ao m.funcs.length cap) ∧ F2 wr (w.heap.size + 1) 33 (.slice a1' m.kinds.length c1') (.slice ao' m.funcs.length cap')) (fun i _ => m.funcs.length - (intOf i).toNat)
  case atStart => exact ⟨0, Nat.zero_le _, rfl, hb1, y0, y1⟩
  case round =>
    obtain ⟨k, hk, rfl, hb, z0, z1⟩ := hrel
    clear hb1 y0 y1
    have d0 := z0.c1
    have d1 := z1.c1
    have s1 := z1.lt
    have s0 := z0.lt
    by_cases hlt : k < m.funcs.length
    · obtain ⟨rfl, hbB⟩ := H1.out (by omega)
      obtain ⟨rfl, hbB'⟩ := H1'.out (by omega)
      obtain ⟨x, g0, g1, g2, g3, hx⟩ := H2.out k hlt
      obtain ⟨x', g0', g1', g2', g3', hx'⟩ := H2'.out k hlt
      obtain ⟨x1, y1, x2, y2, x3, y3, x4, y4, rfl⟩ := hx.shape
      obtain ⟨x1', y1', x2', y2', x3', y3', x4', y4', rfl⟩ := hx'.shape
      have k0 := (hb.cell (p := ⟨b, off + k * 4, none⟩) hbB).trans g0
      have k1 := (hb.cell (p := ⟨b, off + k * 4 + 1, none⟩) hbB).trans g1
      have k2 := (hb.cell (p := ⟨b, off + k * 4 + 2, none⟩) hbB).trans g2
      have k3 := (hb.cell (p := ⟨b, off + k * 4 + 3, none⟩) hbB).trans g3
      have k0' := (hb.cell (p := ⟨b', off' + k * 4, none⟩) hbB').trans g0'
      have k1' := (hb.cell (p := ⟨b', off' + k * 4 + 1, none⟩) hbB').trans g1'
      have k2' := (hb.cell (p := ⟨b', off' + k * 4 + 2, none⟩) hbB').trans g2'
      have k3' := (hb.cell (p := ⟨b', off' + k * 4 + 3, none⟩) hbB').trans g3'
      have hf : FnR wr.drew wr.drew.heap.size _ _ := ((hx.below hb).wide (Nat.le_of_lt s0)).heap rfl
      have hf' : FnR wr.drew wr.drew.heap.size _ _ := ((hx'.below hb).wide (Nat.le_of_lt s0)).heap rfl
      clear g0 g1 g2 g3 g0' g1' g2' g3' hx hx'
      generalize m.funcs.getD k ⟨[], [], [], []⟩ = f at *
      simp only at *
      have s2 : b < wr.heap.size := by omega
      have s3 : b' < wr.heap.size := by omega
      go_wp2_with fail
      go_region_held3 (fun w' => w'.cell? ⟨w.heap.size, 1, none⟩ = some (.slice (some ⟨b, off, none⟩) m.funcs.length cap) ∧ w'.cell? ⟨w.heap.size + 1, 1, none⟩ = some (.slice (some ⟨b', off', none⟩) m.funcs.length cap') ∧ w'.cell? ⟨b, off + k * 4, none⟩ = some (.slice x1 f.params.length y1) ∧ w'.cell? ⟨b, off + k * 4 + 1, none⟩ = some (.slice x2 f.results.length y2) ∧ w'.cell? ⟨b, off + k * 4 + 2, none⟩ = some (.slice x3 f.locals.length y3) ∧ w'.cell? ⟨b, off + k * 4 + 3, none⟩ = some (.slice x4 f.code.length y4) ∧ w'.cell? ⟨b', off' + k * 4, none⟩ = some (.slice x1' f.params.length y1') ∧ w'.cell? ⟨b', off' + k * 4 + 1, none⟩ = some (.slice x2' f.results.length y2') ∧ w'.cell? ⟨b', off' + k * 4 + 2, none⟩ = some (.slice x3' f.locals.length y3') ∧ w'.cell? ⟨b', off' + k * 4 + 3, none⟩ = some (.slice x4' f.code.length y4'))
        (first | exact ⟨d0, d1, k0, k1, k2, k3, k0', k1', k2', k3'⟩ | exact ⟨(hb3.cell (p := ⟨w.heap.size, 1, none⟩) s0).trans d0, (hb3.cell (p := ⟨w.heap.size + 1, 1, none⟩) s1).trans d1, (hb3.cell (p := ⟨b, off + k * 4, none⟩) s2).trans k0, (hb3.cell (p := ⟨b, off + k * 4 + 1, none⟩) s2).trans k1, (hb3.cell (p := ⟨b, off + k * 4 + 2, none⟩) s2).trans k2, (hb3.cell (p := ⟨b, off + k * 4 + 3, none⟩) s2).trans k3, (hb3.cell (p := ⟨b', off' + k * 4, none⟩) s3).trans k0', (hb3.cell (p := ⟨b', off' + k * 4 + 1, none⟩) s3).trans k1', (hb3.cell (p := ⟨b', off' + k * 4 + 2, none⟩) s3).trans k2', (hb3.cell (p := ⟨b', off' + k * 4 + 3, none⟩) s3).trans k3'⟩)
        ((go_at_call 66; refine (sameFunc_same f ⟨.slice x1 f.params.length y1, .slice x2 f.results.length y2, .slice x3 f.locals.length y3, .slice x4 f.code.length y4⟩ ⟨.slice x1' f.params.length y1', .slice x2' f.results.length y2', .slice x3' f.locals.length y3', .slice x4' f.code.length y4'⟩ _ hf hf').mono ?_; rintro e w3 ⟨rfl, hb3⟩))
      have hbw3 : Below w.heap.size w w3 := hb.drew.trans (hb3.mono (Nat.le_of_lt s0))
      have z03 : F2 w3 w.heap.size 33 (.slice a1 m.kinds.length c1) (.slice (some ⟨b, off, none⟩) m.funcs.length cap) := (hb3.block w.heap.size s0).trans z0
      have z13 : F2 w3 (w.heap.size + 1) 33 (.slice a1' m.kinds.length c1') (.slice (some ⟨b', off', none⟩) m.funcs.length cap') := (hb3.block (w.heap.size + 1) s1).trans z1
      clear hb hb3 z0 z1 k0 k1 k2 k3 k0' k1' k2' k3' d0 d1 hf hf'
      go_wp2
      go_roundw
      case rel => exact ⟨k + 1, hlt, by go_num, hbw3, z03, z13⟩
      case measure => simp [intOf]; omega
    · go_wp2
      go_ret
      exact ⟨rfl, hb⟩
end Go.Proofs.Ytjamgmbdilkbcaa
