import Derived.Test.YtjamgmbdilkbcaaLotGased08
import Derived.Deep.RegionHeld3
/- The law's own comparing of modules. -/
namespace Go.Proofs.Ytjamgmbdilkbcaa
open Go.RowKit

set_option maxHeartbeats 400000 in
theorem sameInts_same (l : List Int) (v v' : Value) (B : Nat) (w : World) (h : IntsR w B v l) (h' : IntsR w B v' l) (hl : l.length ≤ maxLen) :
    Calls Try.prog 65 #[v, v'] w fun e w' => e = .returned (.bool true) ∧ Below B w w' ∧ w'.heap = w.heap := by
  obtain ⟨ao, cap, b, off, rfl, h1, h2⟩ := h
  obtain ⟨ao', cap', b', off', rfl, h1', h2'⟩ := h'
  have H1 : Hid _ := h1
  have H2 : Hid _ := h2
  have H1' : Hid _ := h1'
  have H2' : Hid _ := h2'
  clear h1 h2 h1' h2'
  unfold maxLen at hl
  go_enter Try.func65, Try.ntmps65
  go_wp2
  go_loopw [5] (fun i wr => ∃ k : Nat, k ≤ l.length ∧ i = .int .i64 k ∧ Below B w wr ∧ wr.heap = w.heap) (fun i _ => l.length - (intOf i).toNat)
  case atStart => exact ⟨0, Nat.zero_le _, rfl, Below.refl _ _, rfl⟩
  case round =>
    obtain ⟨k, hk, rfl, hb, hh⟩ := hrel
    have HH : Hid _ := hh
    clear hh
    by_cases hlt : k < l.length
    · obtain ⟨rfl, hbB⟩ := H1.out (by omega)
      obtain ⟨rfl, hbB'⟩ := H1'.out (by omega)
      have c1 := (hb.cell (p := ⟨b, off + k, none⟩) hbB).trans (H2.out k hlt)
      have c2 := (hb.cell (p := ⟨b', off' + k, none⟩) hbB').trans (H2'.out k hlt)
      generalize l.getD k 0 = x at *
      go_wp2
      go_quiet (fail)
      go_wp2
      go_roundw
      case rel => exact ⟨k + 1, hlt, by go_num, below_drewN hb _, HH.out⟩
      case measure => simp [intOf]; omega
    · go_wp2
      go_ret
      exact ⟨rfl, hb, HH.out⟩

set_option maxHeartbeats 400000 in
theorem sameCode_same (l : List (Int × Int)) (v v' : Value) (B : Nat) (w : World) (h : CodeR w B v l) (h' : CodeR w B v' l) (hl : l.length ≤ maxLen) :
    Calls Try.prog 95 #[v, v'] w fun e w' => e = .returned (.bool true) ∧ Below B w w' ∧ w'.heap = w.heap := by
  obtain ⟨ao, cap, b, off, rfl, h1, h2⟩ := h
  obtain ⟨ao', cap', b', off', rfl, h1', h2'⟩ := h'
  have H1 : Hid _ := h1
  have H2 : Hid _ := h2
  have H1' : Hid _ := h1'
  have H2' : Hid _ := h2'
  clear h1 h2 h1' h2'
  unfold maxLen at hl
  go_enter Try.func95, Try.ntmps95
  go_wp2
  go_loopw [5] (fun i wr => ∃ k : Nat, k ≤ l.length ∧ i = .int .i64 k ∧ Below B w wr ∧ wr.heap = w.heap) (fun i _ => l.length - (intOf i).toNat)
  case atStart => exact ⟨0, Nat.zero_le _, rfl, Below.refl _ _, rfl⟩
  case round =>
    obtain ⟨k, hk, rfl, hb, hh⟩ := hrel
    have HH : Hid _ := hh
    clear hh
    by_cases hlt : k < l.length
    · obtain ⟨rfl, hbB⟩ := H1.out (by omega)
      obtain ⟨rfl, hbB'⟩ := H1'.out (by omega)
      have c1 := (hb.cell (p := ⟨b, off + k * 2, none⟩) hbB).trans (H2.out k hlt).1
      have c2 := (hb.cell (p := ⟨b, off + k * 2 + 1, none⟩) hbB).trans (H2.out k hlt).2
      have c3 := (hb.cell (p := ⟨b', off' + k * 2, none⟩) hbB').trans (H2'.out k hlt).1
      have c4 := (hb.cell (p := ⟨b', off' + k * 2 + 1, none⟩) hbB').trans (H2'.out k hlt).2
      generalize l.getD k (0, 0) = x at *
      go_wp2
      go_quiet (fail)
      go_wp2
      go_roundw
      case rel => exact ⟨k + 1, hlt, by go_num, below_drewN hb _, HH.out⟩
      case measure => simp [intOf]; omega
    · go_wp2
      go_ret
      exact ⟨rfl, hb, HH.out⟩

set_option maxHeartbeats 1000000 in
theorem sameFunc_same (f : Pu.Fn) (x x' : FV) (w : World) (h : FnR w w.heap.size x f) (h' : FnR w w.heap.size x' f) :
    Calls Try.prog 66 #[.agg #[x.p, x.r, x.l, x.c], .agg #[x'.p, x'.r, x'.l, x'.c]] w fun e w' => e = .returned (.bool true) ∧ Below w.heap.size w w' := by
  obtain ⟨x1, y1, x2, y2, x3, y3, x4, y4, rfl⟩ := h.shape
  obtain ⟨x1', y1', x2', y2', x3', y3', x4', y4', rfl⟩ := h'.shape
  obtain ⟨W0, hW0⟩ : ∃ W0, W0 = (w.alloc (.cells #[.slice x1 f.params.length y1, .slice x2 f.results.length y2, .slice x3 f.locals.length y3, .slice x4 f.code.length y4] 86)).alloc (.cells #[.slice x1' f.params.length y1', .slice x2' f.results.length y2', .slice x3' f.locals.length y3', .slice x4' f.code.length y4'] 86) := ⟨_, rfl⟩
  have hbW : Below w.heap.size w W0 := by rw [hW0]; exact ((Below.refl _ _).alloc (Nat.le_refl _) _).alloc (by simp) _
  have p0W : F4 W0 w.heap.size 86 (.slice x1 f.params.length y1) (.slice x2 f.results.length y2) (.slice x3 f.locals.length y3) (.slice x4 f.code.length y4) := by rw [hW0]; exact (two_allocs w _ _ _).1
  have p1W : F4 W0 (w.heap.size + 1) 86 (.slice x1' f.params.length y1') (.slice x2' f.results.length y2') (.slice x3' f.locals.length y3') (.slice x4' f.code.length y4') := by rw [hW0]; exact (two_allocs w _ _ _).2
  have hfW := h.below hbW
  have hfW' := h'.below hbW
  have HW : Hid _ := hW0
  clear hW0 h h'
  go_enter Try.func66, Try.ntmps66
  go_wp2_with fail
  rw [← HW.out]
  clear HW
  refine (sameInts_same f.params _ _ _ _ hfW.p hfW'.p hfW.np).mono ?_
  rintro e w2 ⟨rfl, hb2, hh2⟩
  have hbW2 := hbW.trans hb2
  have HH2 : Hid _ := hh2
  clear hh2 hb2 hbW
  have p02 := p0W.heap HH2.out
  have p12 := p1W.heap HH2.out
  have d0 := p02.c1
  have d1 := p12.c1
  go_wp2_with fail
  clear d0 d1 p02 p12
  refine (sameInts_same f.results _ _ _ _ (hfW.r.heap HH2.out) (hfW'.r.heap HH2.out) hfW.nr).mono ?_
  rintro e w3 ⟨rfl, hb3, hh3⟩
  have hbW3 := hbW2.trans hb3
  have HH3 : Hid _ := hh3.trans HH2.out
  clear hh3 hb3 hbW2 HH2
  have p02 := p0W.heap HH3.out
  have p12 := p1W.heap HH3.out
  have d0 := p02.c2
  have d1 := p12.c2
  go_wp2_with fail
  clear d0 d1 p02 p12
  refine (sameInts_same f.locals _ _ _ _ (hfW.l.heap HH3.out) (hfW'.l.heap HH3.out) hfW.nl).mono ?_
  rintro e w4 ⟨rfl, hb4, hh4⟩
  have hbW4 := hbW3.trans hb4
  have HH4 : Hid _ := hh4.trans HH3.out
  clear hh4 hb4 hbW3 HH3
  have p02 := p0W.heap HH4.out
  have p12 := p1W.heap HH4.out
  have d0 := p02.c3
  have d1 := p12.c3
  go_wp2_with fail
  clear d0 d1 p02 p12
  refine (sameCode_same f.code _ _ _ _ (hfW.c.heap HH4.out) (hfW'.c.heap HH4.out) hfW.nc).mono ?_
  rintro e w5 ⟨rfl, hb5, hh5⟩
  have hbW5 := hbW4.trans hb5
  clear hh5 hb5 hbW4 HH4 p0W p1W hfW hfW'
  go_wp2
  go_ret
  exact ⟨rfl, hbW5⟩

set_option maxRecDepth 100000 in
set_option maxHeartbeats 2000000 in
theorem sameModule_same (m : Pu.Md) (k v k' v' : Value) (w : World) (h : MdR w w.heap.size k v m) (h' : MdR w w.heap.size k' v' m) :
    Calls Try.prog 34 #[.agg #[k, v], .agg #[k', v']] w fun e w' => e = .returned (.bool true) ∧ Below w.heap.size w w' := by
  obtain ⟨a1, c1, rfl⟩ := h.k.shape
  obtain ⟨a1', c1', rfl⟩ := h'.k.shape
  have hnf := h.nf
  unfold maxLen at hnf
  have hv := h.v
  have hv' := h'.v
  obtain ⟨ao, cap, b, off, rfl, h1, h2⟩ := hv
  obtain ⟨ao', cap', b', off', rfl, h1', h2'⟩ := hv'
  have H1 : Hid _ := h1
  have H2 : Hid _ := h2
  have H1' : Hid _ := h1'
  have H2' : Hid _ := h2'
  clear h1 h2 h1' h2'
  obtain ⟨W0, hW0⟩ : ∃ W0, W0 = (w.alloc (.cells #[.slice a1 m.kinds.length c1, .slice ao m.funcs.length cap] 33)).alloc (.cells #[.slice a1' m.kinds.length c1', .slice ao' m.funcs.length cap'] 33) := ⟨_, rfl⟩
  have hb0 : Below w.heap.size w W0 := by rw [hW0]; exact ((Below.refl w.heap.size w).alloc (Nat.le_refl _) _).alloc (by simp) _
  have x0 : F2 W0 w.heap.size 33 (.slice a1 m.kinds.length c1) (.slice ao m.funcs.length cap) := by rw [hW0]; exact (two_allocs w _ _ _).1
  have x1 : F2 W0 (w.heap.size + 1) 33 (.slice a1' m.kinds.length c1') (.slice ao' m.funcs.length cap') := by rw [hW0]; exact (two_allocs w _ _ _).2
  have hk0 := h.k.below hb0
  have hk0' := h'.k.below hb0
  have hnk := h.nk
  have HW : Hid _ := hW0
  clear h h' hW0
  go_enter Try.func34, Try.ntmps34
  go_wp2_with fail
  rw [← HW.out]
  clear HW
  refine (sameInts_same m.kinds _ _ _ _ hk0 hk0' hnk).mono ?_
  rintro e w1 ⟨rfl, hbn, hh⟩
  have hb1 := hb0.trans hbn
  have y0 := x0.heap hh
  have y1 := x1.heap hh
  clear hb0 x0 x1 hk0 hk0' hbn hh
  have d0 := y0.c1
  have d1 := y1.c1
  go_wp2
  clear d0 d1
  go_loopw [6] (fun i wr => ∃ k : Nat, k ≤ m.funcs.length ∧ i = .int .i64 k ∧ Below w.heap.size w wr ∧ F2 wr w.heap.size 33 (.slice a1 m.kinds.length c1) (.slice ao m.funcs.length cap) ∧ F2 wr (w.heap.size + 1) 33 (.slice a1' m.kinds.length c1') (.slice ao' m.funcs.length cap')) (fun i _ => m.funcs.length - (intOf i).toNat)
  case atStart => exact ⟨0, Nat.zero_le _, rfl, hb1, y0, y1⟩
  case round =>
    obtain ⟨k, hk, rfl, hb, z0, z1⟩ := hrel
    clear hb1 y0 y1
    have d0 := z0.c1
    have d1 := z1.c1
    have s1 := z1.lt
    have s0 := z0.lt
    by_cases hlt : k < m.funcs.length
    · obtain ⟨rfl, hbB⟩ := H1.out (by omega)
      obtain ⟨rfl, hbB'⟩ := H1'.out (by omega)
      obtain ⟨x, g0, g1, g2, g3, hx⟩ := H2.out k hlt
      obtain ⟨x', g0', g1', g2', g3', hx'⟩ := H2'.out k hlt
      obtain ⟨x1, y1, x2, y2, x3, y3, x4, y4, rfl⟩ := hx.shape
      obtain ⟨x1', y1', x2', y2', x3', y3', x4', y4', rfl⟩ := hx'.shape
      have k0 := (hb.cell (p := ⟨b, off + k * 4, none⟩) hbB).trans g0
      have k1 := (hb.cell (p := ⟨b, off + k * 4 + 1, none⟩) hbB).trans g1
      have k2 := (hb.cell (p := ⟨b, off + k * 4 + 2, none⟩) hbB).trans g2
      have k3 := (hb.cell (p := ⟨b, off + k * 4 + 3, none⟩) hbB).trans g3
      have k0' := (hb.cell (p := ⟨b', off' + k * 4, none⟩) hbB').trans g0'
      have k1' := (hb.cell (p := ⟨b', off' + k * 4 + 1, none⟩) hbB').trans g1'
      have k2' := (hb.cell (p := ⟨b', off' + k * 4 + 2, none⟩) hbB').trans g2'
      have k3' := (hb.cell (p := ⟨b', off' + k * 4 + 3, none⟩) hbB').trans g3'
      have hf : FnR wr.drew wr.drew.heap.size _ _ := ((hx.below hb).wide (Nat.le_of_lt s0)).heap rfl
      have hf' : FnR wr.drew wr.drew.heap.size _ _ := ((hx'.below hb).wide (Nat.le_of_lt s0)).heap rfl
      clear g0 g1 g2 g3 g0' g1' g2' g3' hx hx'
      generalize m.funcs.getD k ⟨[], [], [], []⟩ = f at *
      simp only at *
      have s2 : b < wr.heap.size := by omega
      have s3 : b' < wr.heap.size := by omega
      go_wp2_with fail
      go_region_held3 (fun w' => w'.cell? ⟨w.heap.size, 1, none⟩ = some (.slice (some ⟨b, off, none⟩) m.funcs.length cap) ∧ w'.cell? ⟨w.heap.size + 1, 1, none⟩ = some (.slice (some ⟨b', off', none⟩) m.funcs.length cap') ∧ w'.cell? ⟨b, off + k * 4, none⟩ = some (.slice x1 f.params.length y1) ∧ w'.cell? ⟨b, off + k * 4 + 1, none⟩ = some (.slice x2 f.results.length y2) ∧ w'.cell? ⟨b, off + k * 4 + 2, none⟩ = some (.slice x3 f.locals.length y3) ∧ w'.cell? ⟨b, off + k * 4 + 3, none⟩ = some (.slice x4 f.code.length y4) ∧ w'.cell? ⟨b', off' + k * 4, none⟩ = some (.slice x1' f.params.length y1') ∧ w'.cell? ⟨b', off' + k * 4 + 1, none⟩ = some (.slice x2' f.results.length y2') ∧ w'.cell? ⟨b', off' + k * 4 + 2, none⟩ = some (.slice x3' f.locals.length y3') ∧ w'.cell? ⟨b', off' + k * 4 + 3, none⟩ = some (.slice x4' f.code.length y4'))
        (first | exact ⟨d0, d1, k0, k1, k2, k3, k0', k1', k2', k3'⟩ | exact ⟨(hb3.cell (p := ⟨w.heap.size, 1, none⟩) s0).trans d0, (hb3.cell (p := ⟨w.heap.size + 1, 1, none⟩) s1).trans d1, (hb3.cell (p := ⟨b, off + k * 4, none⟩) s2).trans k0, (hb3.cell (p := ⟨b, off + k * 4 + 1, none⟩) s2).trans k1, (hb3.cell (p := ⟨b, off + k * 4 + 2, none⟩) s2).trans k2, (hb3.cell (p := ⟨b, off + k * 4 + 3, none⟩) s2).trans k3, (hb3.cell (p := ⟨b', off' + k * 4, none⟩) s3).trans k0', (hb3.cell (p := ⟨b', off' + k * 4 + 1, none⟩) s3).trans k1', (hb3.cell (p := ⟨b', off' + k * 4 + 2, none⟩) s3).trans k2', (hb3.cell (p := ⟨b', off' + k * 4 + 3, none⟩) s3).trans k3'⟩)
        ((go_at_call 66; refine (sameFunc_same f ⟨.slice x1 f.params.length y1, .slice x2 f.results.length y2, .slice x3 f.locals.length y3, .slice x4 f.code.length y4⟩ ⟨.slice x1' f.params.length y1', .slice x2' f.results.length y2', .slice x3' f.locals.length y3', .slice x4' f.code.length y4'⟩ _ hf hf').mono ?_; rintro e w3 ⟨rfl, hb3⟩))
      have hbw3 : Below w.heap.size w w3 := hb.drew.trans (hb3.mono (Nat.le_of_lt s0))
      have z03 : F2 w3 w.heap.size 33 (.slice a1 m.kinds.length c1) (.slice (some ⟨b, off, none⟩) m.funcs.length cap) := (hb3.block w.heap.size s0).trans z0
      have z13 : F2 w3 (w.heap.size + 1) 33 (.slice a1' m.kinds.length c1') (.slice (some ⟨b', off', none⟩) m.funcs.length cap') := (hb3.block (w.heap.size + 1) s1).trans z1
      clear hb hb3 z0 z1 k0 k1 k2 k3 k0' k1' k2' k3' d0 d1 hf hf'
      go_wp2
      go_roundw
      case rel => exact ⟨k + 1, hlt, by go_num, hbw3, z03, z13⟩
      case measure => simp [intOf]; omega
    · go_wp2
      go_ret
      exact ⟨rfl, hb⟩
end Go.Proofs.Ytjamgmbdilkbcaa

/- An append keeps what the slice held; what the caller holds. -/
namespace Go.Proofs.Ytjamgmbdilkbcaa
open Go.RowKit

section
variable {P : Program} {w w' : World}

/-- behind an append that went through the old slice still owns its cells; where the new one lies. -/
theorem append_keeps {base : Nat} {t ty e : TypeId} {i : TypeInfo} {z : Value} {size bytes : Nat} (ht : P.underlying t = some (.slice e)) (hi : P.info? e = some i) (hz : i.zero = some z)
    (hsize : i.size = size) (hby : i.bytes = bytes)
    {v : Value} {n : Nat} {xs : List Value} (hown : w.ownsRow base e size v n xs)
    {a : Addr} {m c : Nat} {news : List Value} (hl : news.length = m * size) (hnews : ∀ j u, news[j]? = some u → w.cell? (a.add j) = some u) (h1 : ∀ u ∈ news, u.oneCell' = true)
    (h63 : n + m ≤ maxLen) (hbytes : (n + m) * bytes ≤ 140737488355328) (hm : 0 < m)
    {v' : Value} (hr : (Builtin.append_ #[t, t] ty #[v, .slice (some a) m c]).run P w = .ok v' w') : w'.ownsRow base e size v n xs ∧ (v'.ownBlock = v.ownBlock ∨ v'.ownBlock = some w.heap.size) := by
  subst hsize
  subst hby
  have h0 := hown
  rcases hown.2 with ⟨rfl, rfl⟩ | ⟨g, cap, cur, rfl, hbg, hg, hnc, hcm, hcs, htake⟩
  · have hx : xs = [] := List.eq_nil_of_length_eq_zero (by simpa using hown.1)
    subst hx
    rw [run_append_nil (P := P) w t ty e i z ht hi hz a m c news hl hnews hm (by simp only [maxLen] at h63; omega) (by have hb := hbytes; simp only [Nat.zero_add] at hb; omega)] at hr
    simp only [Result.ok.injEq] at hr
    obtain ⟨rfl, _⟩ := hr
    exact ⟨World.ownsRow_nil w' base e i.size, .inr rfl⟩
  · have hsm : n + m ≤ 9223372036854775807 := by simp only [maxLen] at h63; omega
    by_cases hroom : n + m ≤ cap
    · have hfit : n * i.size + news.length ≤ cur.size := by rw [hl, hcs, ← Nat.add_mul]; exact Nat.mul_le_mul_right _ hroom
      rw [run_append_room (P := P) w t ty e i ht hi g n cap cur hg a m c news hl hnews h1 hroom hfit] at hr
      simp only [Result.ok.injEq] at hr
      obtain ⟨rfl, rfl⟩ := hr
      refine ⟨⟨hown.1, .inr ⟨g, cap, _, rfl, hbg, setRow_heap w g cur _ e _ hg, hnc, hcm, ?_, ?_⟩⟩, .inl rfl⟩
      · simp only [List.size_toArray, List.length_append, List.length_take, List.length_drop, Array.length_toList]
        omega
      · have hlx : (List.take (n * i.size) cur.toList).length = n * i.size := by rw [htake]; exact hown.1
        simp only [List.append_assoc]
        rw [List.take_append_of_le_length (by omega), List.take_of_length_le (by omega)]
        exact htake
    · rw [run_append_grow (P := P) w t ty e i z ht hi hz ⟨g, 0, none⟩ n cap xs hown.1 (hown.cells (g := g) rfl) a m c news hl hnews (by omega) (by omega) (growslice_fits (by omega) hbytes)] at hr
      simp only [Result.ok.injEq] at hr
      obtain ⟨rfl, rfl⟩ := hr
      exact ⟨h0.kept (w' := w.drew.alloc _) (row := none) ⟨rfl, rfl, rfl, by simp, fun k hk _ => Below.heap_alloc w.drew _ k hk⟩ (.inr (by simp [Value.ownBlock])), .inr rfl⟩

theorem wpList_append_keep {ops : Array Oper} {rest : List Oper} {o : Oper} {a : Act} {Q : Exit → Act → World → Prop} (hgd : o.guard = none) (s x : Operand) (t : TypeId)
    (ho : o.op = .call { callee := .builtin .append, args := #[s, x], argTypes := #[t, t] })
    (base : Nat) (e : TypeId) (i : TypeInfo) (z : Value) (size bytes : Nat) (ht : P.underlying t = some (.slice e)) (hi : P.info? e = some i) (hz : i.zero = some z)
    (hsize : i.size = size) (hby : i.bytes = bytes) (hzs : z.cells.size = size) (hsz : 0 < size)
    (v : Value) (n : Nat) (xs : List Value) (hs : a.eval s = v) (hown : w.ownsRow base e size v n xs)
    (ad : Addr) (m c : Nat) (news : List Value) (hx : a.eval x = .slice (some ad) m c) (hl : news.length = m * size) (hnews : ∀ j u, news[j]? = some u → w.cell? (ad.add j) = some u) (h1 : ∀ u ∈ news, u.oneCell' = true)
    (h63 : n + m ≤ maxLen) (hbytes : (n + m) * bytes ≤ 140737488355328) (hbase : base ≤ w.heap.size) (hm : 0 < m)
    (h : ∀ v' w', w'.ownsRow base e size v' (n + m) (xs ++ news) → w.grownBy w' v.ownBlock → w'.ownsRow base e size v n xs → (v'.ownBlock = v.ownBlock ∨ v'.ownBlock = some w.heap.size) → wpList P ops Q rest (a.put o.dst v') w') : wpList P ops Q (o :: rest) a w :=
  wpList_plain hgd fun _ hK => by
    obtain ⟨v', w', hr, h2, h3, _⟩ := run_append_own (P := P) w base t o.type e i z size bytes ht hi hz hsize hby hzs hsz v n xs hown ad m c news hl hnews h1 h63 hbytes hbase
    have h5 := append_keeps ht hi hz hsize hby hown hl hnews h1 h63 hbytes hm hr
    unfold Oper.wp execOp
    simp only [ho, resolve, invoke, builtin, Sem.run_bind, Sem.run_pure, Result.andThen_ok, List.map_toArray, List.map_cons, List.map_nil, hs, hx, hr]
    exact hK _ _ (h v' w' h2 h3 h5.1 h5.2)
end

/-- an owned row that is the front of another owned row of the same block. -/
theorem owns_front {w : World} {B e size n n' cap cap' g : Nat} {xs ys : List Value} (h : w.ownsRow B e size (.slice (some ⟨g, 0, none⟩) n' cap') n' (xs ++ ys)) (hx : xs.length = n * size) (hn : n ≤ n') (hc : cap = cap') :
    w.ownsRow B e size (.slice (some ⟨g, 0, none⟩) n cap) n xs := by
  subst hc
  rcases h.2 with ⟨h', _⟩ | ⟨g', cap', cur, h', hb, hg, hnc, hcm, hcs, htake⟩
  · simp at h'
  · simp only [Value.slice.injEq, Option.some.injEq, Addr.mk.injEq, and_true, true_and] at h'
    obtain ⟨rfl, rfl⟩ := h'
    refine ⟨hx, .inr ⟨g, cap, cur, rfl, hb, hg, by omega, hcm, hcs, ?_⟩⟩
    have h2 : n * size ≤ n' * size := Nat.mul_le_mul_right _ hn
    have h3 : List.take (n * size) (List.take (n' * size) cur.toList) = List.take (n * size) (xs ++ ys) := by rw [htake]
    have h4 : List.take (n * size) (List.take (n' * size) cur.toList) = List.take (n * size) cur.toList := by rw [List.take_take, Nat.min_eq_left h2]
    have h5 : List.take (n * size) (xs ++ ys) = xs := by rw [List.take_append_of_le_length (Nat.le_of_eq hx.symm), List.take_of_length_le (Nat.le_of_eq hx)]
    rw [h4, h5] at h3
    exact h3

def ints (n : Nat) (x : Int) : List Value := List.replicate n (.int .i64 x)

/-- a list that is full of a mark. -/
def GoodI (w : World) (S : Nat → Prop) (v : Value) (x : Int) : Prop :=
  ∃ n, w.ownsRow 0 3 1 v n (ints n x) ∧ n ≤ 2000000 ∧ ∀ k, v.ownBlock = some k → S k

def insts (n : Nat) (x y : Int) : List Value := cc (List.replicate n (x, y))

def GoodC (w : World) (S : Nat → Prop) (v : Value) (x : Int) : Prop :=
  ∃ n, w.ownsRow 0 80 2 v n (insts n x (wrap64 (-x))) ∧ n ≤ 2000000 ∧ ∀ k, v.ownBlock = some k → S k

/-- a function that holds nothing but a mark. -/
def MarkedF (w : World) (S : Nat → Prop) (f : FV) (x : Int) : Prop :=
  ∃ q c, f = ⟨.slice (some ⟨q, 0, none⟩) 1 c, .slice none 0 0, .slice none 0 0, .slice none 0 0⟩ ∧ S q ∧ w.heap[q]? = some (.cells #[.int .i64 x] 3 (0, 0))

def GoodF (w : World) (S : Nat → Prop) (v : Value) (x : Int) : Prop :=
  ∃ fs : List FV, w.ownsRow 0 86 4 v fs.length (fc fs) ∧ fs.length ≤ 2000000 ∧ (∀ f ∈ fs, MarkedF w S f x) ∧ ∀ k, v.ownBlock = some k → S k

/-- the cells of what is held. -/
def hc (l : List (Value × Int)) : List Value := l.flatMap fun x => [x.1, .int .i64 x.2]
theorem hc_snoc (l : List (Value × Int)) (x : Value × Int) : hc (l ++ [x]) = hc l ++ [x.1, .int .i64 x.2] := by simp [hc]

/-- Held itself and its three lists. -/
structure HR (w : World) (B ph : Nat) (N : Int) (vi vc vf : Value) (ei ec ef : List (Value × Int)) : Prop where
  h : F4 w ph 27 (.int .i64 N) vi vc vf
  oi : w.ownsRow B 74 2 vi ei.length (hc ei)
  oc : w.ownsRow B 78 2 vc ec.length (hc ec)
  of : w.ownsRow B 83 2 vf ef.length (hc ef)
  hB : B ≤ ph

/-- WHAT THE CALLER HOLDS: every list still reads as its mark. -/
structure HG (w : World) (S : Nat → Prop) (ei ec ef : List (Value × Int)) : Prop where
  gi : ∀ x ∈ ei, GoodI w S x.1 x.2
  gc : ∀ x ∈ ec, GoodC w S x.1 x.2
  gf : ∀ x ∈ ef, GoodF w S x.1 x.2

def Hd (w : World) (B ph : Nat) (S : Nat → Prop) (K : Nat) : Prop :=
  ∃ N vi vc vf ei ec ef, HR w B ph N vi vc vf ei ec ef ∧ HG w S ei ec ef ∧ ei.length ≤ K ∧ ec.length ≤ K ∧ ef.length ≤ K

def Plain (w : World) (k : Nat) : Prop := ∃ c t fr, w.heap[k]? = some (.cells c t fr) ∧ (t = 3 ∨ t = 80 ∨ t = 86)

/-- what the held lists lean on is as it was. -/
structure Kp (w w' : World) (S : Nat → Prop) : Prop where
  size : w.heap.size ≤ w'.heap.size
  block : ∀ k, k < w.heap.size → S k → Plain w k → w'.heap[k]? = w.heap[k]?

theorem owns_block {w w' : World} {B e size n : Nat} {v : Value} {xs : List Value} (h : w.ownsRow B e size v n xs) (hb : ∀ k, v.ownBlock = some k → w'.heap[k]? = w.heap[k]?) : w'.ownsRow B e size v n xs := by
  refine ⟨h.1, ?_⟩
  rcases h.2 with hn | ⟨g, cap, cur, rfl, hB, hg, rest⟩
  · exact .inl hn
  · exact .inr ⟨g, cap, cur, rfl, hB, by rw [hb g rfl]; exact hg, rest⟩

theorem owns_lt {w : World} {B e size n : Nat} {v : Value} {xs : List Value} (h : w.ownsRow B e size v n xs) {k : Nat} (hk : v.ownBlock = some k) : k < w.heap.size := (h.lt k hk).2

theorem owns_ty {w : World} {B e size n : Nat} {v : Value} {xs : List Value} (h : w.ownsRow B e size v n xs) {k : Nat} (hk : v.ownBlock = some k) : ∃ c, w.heap[k]? = some (.cells c e (0, 0)) := by
  rcases h.2 with ⟨rfl, _⟩ | ⟨g, cap, cur, rfl, hB, hg, rest⟩
  · simp [Value.ownBlock] at hk
  · simp only [Value.ownBlock, Option.some.injEq] at hk
    subst hk
    exact ⟨cur, hg⟩

theorem owns_plain {w : World} {B e size n : Nat} {v : Value} {xs : List Value} (h : w.ownsRow B e size v n xs) {k : Nat} (hk : v.ownBlock = some k) (he : e = 3 ∨ e = 80 ∨ e = 86) : Plain w k := by
  obtain ⟨c, hc⟩ := owns_ty h hk
  exact ⟨c, e, _, hc, he⟩

theorem GoodI.kept {w w' : World} {S : Nat → Prop} {v : Value} {x : Int} (h : GoodI w S v x) (hk : Kp w w' S) : GoodI w' S v x := by
  obtain ⟨n, h1, h2, h3⟩ := h
  exact ⟨n, owns_block h1 (fun k e => hk.block k (owns_lt h1 e) (h3 k e) (owns_plain h1 e (.inl rfl))), h2, h3⟩
theorem GoodC.kept {w w' : World} {S : Nat → Prop} {v : Value} {x : Int} (h : GoodC w S v x) (hk : Kp w w' S) : GoodC w' S v x := by
  obtain ⟨n, h1, h2, h3⟩ := h
  exact ⟨n, owns_block h1 (fun k e => hk.block k (owns_lt h1 e) (h3 k e) (owns_plain h1 e (.inr (.inl rfl)))), h2, h3⟩
theorem MarkedF.kept {w w' : World} {S : Nat → Prop} {f : FV} {x : Int} (h : MarkedF w S f x) (hk : Kp w w' S) : MarkedF w' S f x := by
  obtain ⟨q, c, h1, h2, h3⟩ := h
  exact ⟨q, c, h1, h2, (hk.block q (Array.getElem?_eq_some_iff.1 h3).1 h2 ⟨_, _, _, h3, .inl rfl⟩).trans h3⟩
theorem GoodF.kept {w w' : World} {S : Nat → Prop} {v : Value} {x : Int} (h : GoodF w S v x) (hk : Kp w w' S) : GoodF w' S v x := by
  obtain ⟨fs, h1, h2, h3, h4⟩ := h
  exact ⟨fs, owns_block h1 (fun k e => hk.block k (owns_lt h1 e) (h4 k e) (owns_plain h1 e (.inr (.inr rfl)))), h2, fun f hf => (h3 f hf).kept hk, h4⟩
theorem GoodI.more {w : World} {S S' : Nat → Prop} {v : Value} {x : Int} (h : GoodI w S v x) (hs : ∀ k, k < w.heap.size → S k → S' k) : GoodI w S' v x := by
  obtain ⟨n, h1, h2, h3⟩ := h
  exact ⟨n, h1, h2, fun k e => hs k (owns_lt h1 e) (h3 k e)⟩
theorem GoodC.more {w : World} {S S' : Nat → Prop} {v : Value} {x : Int} (h : GoodC w S v x) (hs : ∀ k, k < w.heap.size → S k → S' k) : GoodC w S' v x := by
  obtain ⟨n, h1, h2, h3⟩ := h
  exact ⟨n, h1, h2, fun k e => hs k (owns_lt h1 e) (h3 k e)⟩
theorem GoodF.more {w : World} {S S' : Nat → Prop} {v : Value} {x : Int} (h : GoodF w S v x) (hs : ∀ k, k < w.heap.size → S k → S' k) : GoodF w S' v x := by
  obtain ⟨fs, h1, h2, h3, h4⟩ := h
  refine ⟨fs, h1, h2, fun f hf => ?_, fun k e => hs k (owns_lt h1 e) (h4 k e)⟩
  obtain ⟨q, c, g1, g2, g3⟩ := h3 f hf
  exact ⟨q, c, g1, hs q (Array.getElem?_eq_some_iff.1 g3).1 g2, g3⟩

theorem HG.kept {w w' : World} {S : Nat → Prop} {ei ec ef : List (Value × Int)} (h : HG w S ei ec ef) (hk : Kp w w' S) : HG w' S ei ec ef :=
  ⟨fun x hx => (h.gi x hx).kept hk, fun x hx => (h.gc x hx).kept hk, fun x hx => (h.gf x hx).kept hk⟩
theorem HG.more {w : World} {S S' : Nat → Prop} {ei ec ef : List (Value × Int)} (h : HG w S ei ec ef) (hs : ∀ k, k < w.heap.size → S k → S' k) : HG w S' ei ec ef :=
  ⟨fun x hx => (h.gi x hx).more hs, fun x hx => (h.gc x hx).more hs, fun x hx => (h.gf x hx).more hs⟩

/-- behind a call that only makes memory. -/
theorem Hd.below {w w' : World} {B ph : Nat} {S : Nat → Prop} {K : Nat} (h : Hd w B ph S K) (hb : Below w.heap.size w w') : Hd w' B ph S K := by
  obtain ⟨N, vi, vc, vf, ei, ec, ef, h, g, k⟩ := h
  refine ⟨N, vi, vc, vf, ei, ec, ef, ⟨(hb.block ph h.h.lt).trans h.h, owns_block h.oi (fun k e => hb.block k (owns_lt h.oi e)), owns_block h.oc (fun k e => hb.block k (owns_lt h.oc e)), owns_block h.of (fun k e => hb.block k (owns_lt h.of e)), h.hB⟩, g.kept ⟨hb.size, fun k hk _ _ => hb.block k hk⟩, k⟩
theorem Hd.more {w : World} {B ph : Nat} {S S' : Nat → Prop} {K : Nat} (h : Hd w B ph S K) (hs : ∀ k, k < w.heap.size → S k → S' k) : Hd w B ph S' K := by
  obtain ⟨N, vi, vc, vf, ei, ec, ef, h, g, k⟩ := h
  exact ⟨N, vi, vc, vf, ei, ec, ef, h, g.more hs, k⟩

/-- w' is as w but for new blocks and those of X. -/
structure Fr (w w' : World) (X : Nat → Prop) : Prop where
  os : w'.os = w.os
  tape : w'.tape = w.tape
  output : w'.output = w.output
  size : w.heap.size ≤ w'.heap.size
  block : ∀ k, k < w.heap.size → ¬ X k → w'.heap[k]? = w.heap[k]?

theorem Fr.refl (w : World) (X : Nat → Prop) : Fr w w X := ⟨rfl, rfl, rfl, Nat.le_refl _, fun _ _ _ => rfl⟩
theorem Fr.grown {w w1 w2 : World} {X : Nat → Prop} {r : Option Nat} (h : Fr w w1 X) (hg : w1.grownBy w2 r) (hr : ∀ k, r = some k → X k ∨ w.heap.size ≤ k) : Fr w w2 X :=
  ⟨hg.os.trans h.os, hg.tape.trans h.tape, hg.output.trans h.output, Nat.le_trans h.size hg.size, fun k hk hx => by
    rw [hg.block k (Nat.lt_of_lt_of_le hk h.size) (fun e => by rcases hr k e.symm with h' | h'; exact hx h'; omega)]
    exact h.block k hk hx⟩
theorem Fr.trans {w w1 w2 : World} {X Y : Nat → Prop} (h : Fr w w1 X) (k : Fr w1 w2 Y) (hY : ∀ j, Y j → X j ∨ w.heap.size ≤ j) : Fr w w2 X :=
  ⟨k.os.trans h.os, k.tape.trans h.tape, k.output.trans h.output, Nat.le_trans h.size k.size, fun j hj hx => by
    rw [k.block j (Nat.lt_of_lt_of_le hj h.size) (fun e => by rcases hY j e with h' | h'; exact hx h'; omega)]
    exact h.block j hj hx⟩
theorem Fr.below {w w' : World} {X : Nat → Prop} {B : Nat} (h : Fr w w' X) (hX : ∀ k, X k → B ≤ k) (hB : B ≤ w.heap.size) : Below B w w' :=
  ⟨h.os, h.tape, h.output, h.size, fun k hk => h.block k (by omega) (fun e => by have := hX k e; omega)⟩

/-- the front of a slice that was appended to stays full of its mark. -/
theorem front_kept {w w' : World} {B e size lx lg : Nat} {x gv : Value} {f : Nat → List Value} (hf : ∀ a b, a ≤ b → ∃ ys, f b = f a ++ ys) (hx : w.ownsRow B e size x lx (f lx)) (hg : w.ownsRow B e size gv lg (f lg)) (hs : 0 < size) (hle : lx ≤ lg)
    (hgr : w.grownBy w' gv.ownBlock) (hg' : w'.ownsRow B e size gv lg (f lg)) : w'.ownsRow B e size x lx (f lx) := by
  by_cases he : x.ownBlock = gv.ownBlock
  · rcases hx.2 with ⟨rfl, rfl⟩ | ⟨g, cap, cur, rfl, hb, hgg, h1, h2, h3, h4⟩
    · have : f 0 = [] := List.eq_nil_of_length_eq_zero (by simpa using hx.1)
      rw [this]
      exact World.ownsRow_nil w' B e size
    · rcases hg.2 with ⟨rfl, _⟩ | ⟨g', cap', cur', rfl, hb', hgg', h1', h2', h3', h4'⟩
      · simp [Value.ownBlock] at he
      · simp only [Value.ownBlock, Option.some.injEq] at he
        subst he
        rw [hgg] at hgg'
        simp only [Option.some.injEq, Obj.cells.injEq, and_true] at hgg'
        subst hgg'
        have hcap : cap = cap' := Nat.eq_of_mul_eq_mul_right hs (h3.symm.trans h3')
        obtain ⟨ys, hys⟩ := hf lx lg hle
        rw [hys] at hg'
        exact owns_front hg' hx.1 hle hcap
  · exact hx.kept hgr (by cases hb : x.ownBlock with
      | none => exact .inl rfl
      | some k => exact .inr (by rw [← hb]; exact he))

theorem ints_front (x : Int) : ∀ a b, a ≤ b → ∃ ys, ints b x = ints a x ++ ys := fun a b h => ⟨ints (b - a) x, by unfold ints; rw [List.replicate_append_replicate]; congr 1; omega⟩
theorem ints_succ (n : Nat) (x : Int) : ints (n + 1) x = ints n x ++ [.int .i64 x] := by unfold ints; rw [List.replicate_succ']

set_option maxHeartbeats 400000 in
theorem mark_any (ph : Nat) (N : Int) (a b c : Value) (w : World) (h : F4 w ph 27 (.int .i64 N) a b c) :
    Calls Try.prog 96 #[.pointer (some ⟨ph, 0, none⟩)] w fun e w' => ∃ n N' : Int, e = .returned (.int .i64 n) ∧ w' = w.setCell ⟨ph, 0, none⟩ (.int .i64 N') := by
  have c0 := h.c0
  have f0 := h.fz 0
  have c1 := (h.set0 (.int .i64 (wrap64 (N + 1)))).c0
  clear h
  go_enter Try.func96, Try.ntmps96
  go_wp2
  go_ret
  exact ⟨_, _, rfl, rfl⟩
end Go.Proofs.Ytjamgmbdilkbcaa
