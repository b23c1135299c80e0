import Derived.Test.YtjamgmbdilkbcaaLotGased13
import Derived.Test.YtjamgmbdilkbcaaLotGased01
/- Held.dry. -/
namespace Go.Proofs.Ytjamgmbdilkbcaa
open Go.RowKit

theorem HR.below {w w' : World} {B ph : Nat} {N : Int} {vi vc vf : Value} {ei ec ef : List (Value × Int)} (h : HR w B ph N vi vc vf ei ec ef) (hb : Below w.heap.size w w') : HR w' B ph N vi vc vf ei ec ef :=
  ⟨(hb.block ph h.h.lt).trans h.h, owns_block h.oi (fun k e => hb.block k (owns_lt h.oi e)), owns_block h.oc (fun k e => hb.block k (owns_lt h.oc e)), owns_block h.of (fun k e => hb.block k (owns_lt h.of e)), h.hB⟩
theorem HG.below {w w' : World} {S : Nat → Prop} {ei ec ef : List (Value × Int)} (h : HG w S ei ec ef) (hb : Below w.heap.size w w') : HG w' S ei ec ef := h.kept ⟨hb.size, fun k hk _ _ => hb.block k hk⟩

theorem hc_at : ∀ (l : List (Value × Int)) (k : Nat), k < l.length → ∃ x ∈ l, (hc l)[k * 2]? = some x.1 ∧ (hc l)[k * 2 + 1]? = some (.int .i64 x.2)
  | x :: l, 0, _ => ⟨x, by simp, by simp [hc], by simp [hc]⟩
  | x :: l, k + 1, h => by
    obtain ⟨y, hy, h1, h2⟩ := hc_at l k (by simpa using h)
    refine ⟨y, by simp [hy], ?_, ?_⟩
    · rw [show (k + 1) * 2 = k * 2 + 1 + 1 from by omega]; simpa [hc] using h1
    · rw [show (k + 1) * 2 + 1 = k * 2 + 1 + 1 + 1 from by omega]; simpa [hc] using h2
  | [], _, h => by simp at h

theorem GoodI.reads {w : World} {S : Nat → Prop} {v : Value} {x : Int} (h : GoodI w S v x) : ∃ n, n ≤ 2000000 ∧ IntsR w w.heap.size v (List.replicate n x) := by
  obtain ⟨n, h1, h2, _⟩ := h
  refine ⟨n, h2, owns_ints (B := 0) ?_⟩
  rw [List.length_replicate, List.map_replicate]
  exact h1

theorem GoodC.reads {w : World} {S : Nat → Prop} {v : Value} {x : Int} (h : GoodC w S v x) : ∃ n, n ≤ 2000000 ∧ CodeR w w.heap.size v (List.replicate n (x, wrap64 (-x))) := by
  obtain ⟨n, h1, h2, _⟩ := h
  refine ⟨n, h2, owns_code (B := 0) ?_⟩
  rw [List.length_replicate]
  exact h1

theorem IntsR.len {w : World} {B : Nat} {v : Value} {l : List Int} (h : IntsR w B v l) : ∃ a c, v = .slice a l.length c := by
  obtain ⟨ao, cap, _, _, hv, _⟩ := h
  exact ⟨ao, cap, hv⟩

theorem below_grown {w w' : World} (hg : w.grownBy w' none) : Below w.heap.size w w' := ⟨hg.os, hg.tape, hg.output, hg.size, fun k hk => hg.block k hk (by simp)⟩

theorem fc_at : ∀ (l : List FV) (k : Nat), k < l.length → ∃ x ∈ l, (fc l)[k * 4]? = some x.p ∧ (fc l)[k * 4 + 1]? = some x.r ∧ (fc l)[k * 4 + 2]? = some x.l ∧ (fc l)[k * 4 + 3]? = some x.c
  | x :: l, 0, _ => ⟨x, by simp, by simp [fc_cons, FV.cells], by simp [fc_cons, FV.cells], by simp [fc_cons, FV.cells], by simp [fc_cons, FV.cells]⟩
  | x :: l, k + 1, h => by
    obtain ⟨y, hy, h1, h2, h3, h4⟩ := fc_at l k (by simpa using h)
    refine ⟨y, by simp [hy], ?_, ?_, ?_, ?_⟩
    · rw [fc_cons, show (k + 1) * 4 = k * 4 + 1 + 1 + 1 + 1 from by omega]; simpa [FV.cells] using h1
    · rw [fc_cons, show (k + 1) * 4 + 1 = k * 4 + 1 + 1 + 1 + 1 + 1 from by omega]; simpa [FV.cells] using h2
    · rw [fc_cons, show (k + 1) * 4 + 2 = k * 4 + 2 + 1 + 1 + 1 + 1 from by omega]; simpa [FV.cells] using h3
    · rw [fc_cons, show (k + 1) * 4 + 3 = k * 4 + 3 + 1 + 1 + 1 + 1 from by omega]; simpa [FV.cells] using h4
  | [], _, h => by simp at h

theorem MarkedF.below {w w' : World} {S : Nat → Prop} {f : FV} {x : Int} (h : MarkedF w S f x) (hb : Below w.heap.size w w') : MarkedF w' S f x := h.kept ⟨hb.size, fun k hk _ _ => hb.block k hk⟩

/-- n marked functions in memory. -/
def FAt (w : World) (S : Nat → Prop) (b n : Nat) (y : Int) : Prop :=
  ∀ t, t < n → ∃ f, MarkedF w S f y ∧ w.cell? ⟨b, t * 4, none⟩ = some f.p ∧ w.cell? ⟨b, t * 4 + 1, none⟩ = some f.r ∧ w.cell? ⟨b, t * 4 + 2, none⟩ = some f.l ∧ w.cell? ⟨b, t * 4 + 3, none⟩ = some f.c

theorem FAt.below {w w' : World} {S : Nat → Prop} {b n : Nat} {y : Int} (h : FAt w S b n y) (hb : Below w.heap.size w w') (hl : b < w.heap.size) : FAt w' S b n y := by
  intro t ht
  obtain ⟨f, h0, h1, h2, h3, h4⟩ := h t ht
  exact ⟨f, h0.below hb, (hb.cell (p := ⟨b, t * 4, none⟩) hl).trans h1, (hb.cell (p := ⟨b, t * 4 + 1, none⟩) hl).trans h2, (hb.cell (p := ⟨b, t * 4 + 2, none⟩) hl).trans h3, (hb.cell (p := ⟨b, t * 4 + 3, none⟩) hl).trans h4⟩

theorem GoodF.reads {w : World} {S : Nat → Prop} {v : Value} {x : Int} (h : GoodF w S v x) : ∃ n ao cap b, n ≤ 2000000 ∧ v = .slice ao n cap ∧ (0 < n → ao = some ⟨b, 0, none⟩ ∧ b < w.heap.size) ∧ FAt w S b n x := by
  obtain ⟨fs, h1, h2, h3, _⟩ := h
  obtain ⟨ao, cap, rfl⟩ := owns_shape h1
  by_cases hn : fs.length = 0
  · exact ⟨fs.length, ao, cap, 0, h2, rfl, fun h => by omega, fun t ht => by omega⟩
  · rcases h1.2 with ⟨_, h0⟩ | ⟨g0, cap', cur, h0, _⟩
    · omega
    · simp only [Value.slice.injEq] at h0
      obtain ⟨rfl, _⟩ := h0
      refine ⟨fs.length, _, cap, g0, h2, rfl, fun _ => ⟨rfl, owns_lt h1 rfl⟩, fun t ht => ?_⟩
      obtain ⟨f, hf, q0, q1, q2, q3⟩ := fc_at fs t ht
      exact ⟨f, h3 f hf, (h1.cellAt (t * 4) (by omega)).trans q0, (h1.cellAt (t * 4 + 1) (by omega)).trans q1, (h1.cellAt (t * 4 + 2) (by omega)).trans q2, (h1.cellAt (t * 4 + 3) (by omega)).trans q3⟩

set_option maxRecDepth 100000 in
set_option maxHeartbeats 4000000 in
theorem dry_any (B ph K : Nat) (S : Nat → Prop) (w : World) (hd : Hd w B ph S K) (hK : K ≤ 1000000000) :
    Calls Try.prog 12 #[.pointer (some ⟨ph, 0, none⟩)] w fun e w' => e = .returned (.bool true) ∧ Below w.heap.size w w' := by
  obtain ⟨N, vi, vc, vf, ei, ec, ef, r, g, ki, kc, kf⟩ := hd
  obtain ⟨ai, ci, rfl⟩ := owns_shape r.oi
  obtain ⟨ac, cc, rfl⟩ := owns_shape r.oc
  obtain ⟨af, cf, rfl⟩ := owns_shape r.of
  have hpl := r.h.lt
  obtain ⟨ni, hni⟩ : ∃ n, n = ei.length := ⟨_, rfl⟩
  obtain ⟨nc, hnc⟩ : ∃ n, n = ec.length := ⟨_, rfl⟩
  obtain ⟨nf, hnf⟩ : ∃ n, n = ef.length := ⟨_, rfl⟩
  rw [← hni] at r ki
  rw [← hnc] at r kc
  rw [← hnf] at r kf
  have HNI : Hid _ := hni
  have HNC : Hid _ := hnc
  have HNF : Hid _ := hnf
  have HR0 : Hid _ := r
  have HG0 : Hid _ := g
  clear hni hnc hnf r g
  go_enter Try.func12, Try.ntmps12
  go_wp2
  go_loopw [3] (fun i wr => ∃ k : Nat, k ≤ ni ∧ i = .int .i64 k ∧ Below w.heap.size w wr) (fun i _ => ni - (intOf i).toNat)
  case atStart => exact ⟨0, Nat.zero_le _, rfl, Below.refl _ _⟩
  case round =>
    obtain ⟨k, hk, rfl, hb⟩ := hrel
    have rr := HR0.out.below hb
    have d0 := rr.h.c1
    by_cases hlt : k < ni
    · obtain ⟨x, hx, q0, q1⟩ := hc_at ei k (by rw [← HNI.out]; exact hlt)
      obtain ⟨n, hn, hr⟩ := ((HG0.out.below hb).gi x hx).reads
      have oi := rr.oi
      rw [← HNI.out] at oi
      obtain ⟨g0, rfl⟩ : ∃ g0, ai = some ⟨g0, 0, none⟩ := by
        rcases oi.2 with ⟨_, h0⟩ | ⟨g0, cap', cur, h0, _⟩
        · omega
        · simp only [Value.slice.injEq] at h0
          exact ⟨g0, h0.1⟩
      have k0 := (oi.cellAt (k * 2) (by omega)).trans q0
      have k1 := (oi.cellAt (k * 2 + 1) (by omega)).trans q1
      obtain ⟨u, y⟩ := x
      simp only at k0 k1 hr
      obtain ⟨au, cu, rfl⟩ := hr.len
      rw [List.length_replicate] at k0 hr
      clear rr oi q0 q1
      have hb2 := (Below.refl wr.heap.size wr).alloc (Nat.le_refl _) (.cells #[.slice au n cu, .int .i64 y] 74)
      have hr2 := hr.below hb2
      go_wp2_with fail
      refine (all_any n y _ _ _ hr2 (by unfold maxLen; omega)).mono ?_
      rintro e w3 ⟨rfl, hb3, _⟩
      have hb4 := hb.trans ((hb2.trans hb3).mono (B' := w.heap.size) hb.size)
      clear hb hb2 hb3 hr hr2 d0 k0 k1
      go_wp2
      go_roundw
      case rel => exact ⟨k + 1, hlt, by go_num, hb4⟩
      case measure => simp [intOf]; omega
    · go_wp2
      clear hlt hk rr d0
      go_loopw [6] (fun i wr => ∃ k : Nat, k ≤ nc ∧ i = .int .i64 k ∧ Below w.heap.size w wr) (fun i _ => nc - (intOf i).toNat)
      case atStart => exact ⟨0, Nat.zero_le _, rfl, hb⟩
      case round =>
        obtain ⟨k, hk, rfl, hb⟩ := hrel
        have rr := HR0.out.below hb
        have d0 := rr.h.c2
        by_cases hlt : k < nc
        · obtain ⟨x, hx, q0, q1⟩ := hc_at ec k (by rw [← HNC.out]; exact hlt)
          obtain ⟨n, hn, hr⟩ := ((HG0.out.below hb).gc x hx).reads
          have oi := rr.oc
          rw [← HNC.out] at oi
          obtain ⟨g0, rfl⟩ : ∃ g0, ac = some ⟨g0, 0, none⟩ := by
            rcases oi.2 with ⟨_, h0⟩ | ⟨g0, cap', cur, h0, _⟩
            · omega
            · simp only [Value.slice.injEq] at h0
              exact ⟨g0, h0.1⟩
          have k0 := (oi.cellAt (k * 2) (by omega)).trans q0
          have k1 := (oi.cellAt (k * 2 + 1) (by omega)).trans q1
          obtain ⟨u, y⟩ := x
          simp only at k0 k1 hr
          obtain ⟨au, cu, b, off, rfl, h1, h2⟩ := hr
          rw [List.length_replicate] at k0 h1 h2
          have h3 : ∀ t, t < n → wr.cell? ⟨b, off + t * 2, none⟩ = some (.int .i64 y) ∧ wr.cell? ⟨b, off + t * 2 + 1, none⟩ = some (.int .i64 (wrap64 (-y))) := by
            intro t ht
            have := h2 t ht
            rwa [show (List.replicate n (y, wrap64 (-y))).getD t (0, 0) = (y, wrap64 (-y)) from by simp [List.getD_eq_getElem?_getD, ht]] at this
          clear rr oi q0 q1 h2
          have hb2 := (Below.refl wr.heap.size wr).alloc (Nat.le_refl _) (.cells #[.slice au n cu, .int .i64 y] 78)
          have bx : F2 (wr.alloc (.cells #[.slice au n cu, .int .i64 y] 78)) wr.heap.size 78 (.slice au n cu) (.int .i64 y) := heap_alloc_new wr _
          have h4 : ∀ t, t < n → (wr.alloc (.cells #[.slice au n cu, .int .i64 y] 78)).cell? ⟨b, off + t * 2, none⟩ = some (.int .i64 y) ∧ (wr.alloc (.cells #[.slice au n cu, .int .i64 y] 78)).cell? ⟨b, off + t * 2 + 1, none⟩ = some (.int .i64 (wrap64 (-y))) := by
            intro t ht
            have hbl := (h1 (by omega)).2
            exact ⟨(hb2.cell (p := ⟨b, off + t * 2, none⟩) hbl).trans (h3 t ht).1, (hb2.cell (p := ⟨b, off + t * 2 + 1, none⟩) hbl).trans (h3 t ht).2⟩
          have hz := hb.size
          have hb5 := hb.trans (hb2.mono (B' := w.heap.size) hb.size)
          have H1 : Hid _ := h1
          clear hb hb2 h3 h1
          go_wp2
          clear d0 k0 k1
          obtain ⟨pb, hpb⟩ : ∃ pb, pb = wr.heap.size := ⟨_, rfl⟩
          rw [← hpb] at bx H1 hz ⊢
          clear hpb
          go_loopw [8] (fun i wp => ∃ j : Nat, j ≤ n ∧ i = .int .i64 j ∧ Below w.heap.size w wp ∧ F2 wp pb 78 (.slice au n cu) (.int .i64 y) ∧ ∀ t, t < n → wp.cell? ⟨b, off + t * 2, none⟩ = some (.int .i64 y) ∧ wp.cell? ⟨b, off + t * 2 + 1, none⟩ = some (.int .i64 (wrap64 (-y)))) (fun i _ => n - (intOf i).toNat)
          case atStart => exact ⟨0, Nat.zero_le _, rfl, hb5, bx, h4⟩
          case round =>
            obtain ⟨j, hj, rfl, hb, bx', h5⟩ := hrel
            clear bx h4 hb5
            have d0 := bx'.c0
            have d1 := bx'.c1
            have s0 := bx'.lt
            have H5 : Hid _ := h5
            clear h5
            by_cases hjn : j < n
            · obtain ⟨rfl, hbl⟩ := H1.out (by omega)
              have k0 := (H5.out j hjn).1
              have k1 := (H5.out j hjn).2
              have s1 : b < wr.heap.size := by omega
              go_wp2_with fail
              go_region_held3 (fun w' => w'.cell? ⟨pb, 0, none⟩ = some (.slice (some ⟨b, off, none⟩) n cu) ∧ w'.cell? ⟨pb, 1, none⟩ = some (.int .i64 y) ∧ w'.cell? ⟨b, off + j * 2, none⟩ = some (.int .i64 y) ∧ w'.cell? ⟨b, off + j * 2 + 1, none⟩ = some (.int .i64 (wrap64 (-y))))
                (first | exact ⟨d0, d1, k0, k1⟩ | exact ⟨(hb3.cell (p := ⟨pb, 0, none⟩) s0).trans d0, (hb3.cell (p := ⟨pb, 1, none⟩) s0).trans d1, (hb3.cell (p := ⟨b, off + j * 2, none⟩) s1).trans k0, (hb3.cell (p := ⟨b, off + j * 2 + 1, none⟩) s1).trans k1⟩)
                ((go_at_call 38; refine (markInstr_any y _).mono ?_; rintro e w3 ⟨rfl, hg3⟩; have hb3 := below_grown hg3; clear hg3))
              have hbw3 : Below w.heap.size w w3 := hb.drew.trans (hb3.mono (Nat.le_trans hz (Nat.le_of_lt s0)))
              have bx3 : F2 w3 pb 78 (.slice (some ⟨b, off, none⟩) n cu) (.int .i64 y) := (hb3.block pb s0).trans bx'
              have h6 : ∀ t, t < n → w3.cell? ⟨b, off + t * 2, none⟩ = some (.int .i64 y) ∧ w3.cell? ⟨b, off + t * 2 + 1, none⟩ = some (.int .i64 (wrap64 (-y))) := fun t ht =>
                ⟨(hb3.cell (p := ⟨b, off + t * 2, none⟩) s1).trans (H5.out t ht).1, (hb3.cell (p := ⟨b, off + t * 2 + 1, none⟩) s1).trans (H5.out t ht).2⟩
              have H6 : Hid _ := h6
              clear hb hb3 bx' k0 k1 d0 d1 h6
              go_wp2
              go_roundw
              case rel => exact ⟨j + 1, hjn, by go_num, hbw3, bx3, H6.out⟩
              case measure => simp [intOf]; omega
            · go_wp2
              go_roundw
              case rel => exact ⟨k + 1, hlt, by go_num, hb⟩
              case measure => simp [intOf]; omega
        · go_wp2
          clear hlt hk rr d0
          go_loopw [9] (fun i wr => ∃ k : Nat, k ≤ nf ∧ i = .int .i64 k ∧ Below w.heap.size w wr) (fun i _ => nf - (intOf i).toNat)
          case atStart => exact ⟨0, Nat.zero_le _, rfl, hb⟩
          case round =>
            obtain ⟨k, hk, rfl, hb⟩ := hrel
            have rr := HR0.out.below hb
            have d0 := rr.h.c3
            by_cases hlt : k < nf
            · obtain ⟨x, hx, q0, q1⟩ := hc_at ef k (by rw [← HNF.out]; exact hlt)
              obtain ⟨n, au, cu, b, hn, hxv, h1, h2⟩ := ((HG0.out.below hb).gf x hx).reads
              have oi := rr.of
              rw [← HNF.out] at oi
              obtain ⟨g0, rfl⟩ : ∃ g0, af = some ⟨g0, 0, none⟩ := by
                rcases oi.2 with ⟨_, h0⟩ | ⟨g0, cap', cur, h0, _⟩
                · omega
                · simp only [Value.slice.injEq] at h0
                  exact ⟨g0, h0.1⟩
              have k0 := (oi.cellAt (k * 2) (by omega)).trans q0
              have k1 := (oi.cellAt (k * 2 + 1) (by omega)).trans q1
              obtain ⟨u, y⟩ := x
              simp only at k0 k1 h1 h2 hxv
              subst hxv
              clear rr oi q0 q1
              have hb2 := (Below.refl wr.heap.size wr).alloc (Nat.le_refl _) (.cells #[.slice au n cu, .int .i64 y] 83)
              have bx : F2 (wr.alloc (.cells #[.slice au n cu, .int .i64 y] 83)) wr.heap.size 83 (.slice au n cu) (.int .i64 y) := heap_alloc_new wr _
              have h4 : FAt (wr.alloc (.cells #[.slice au n cu, .int .i64 y] 83)) S b n y := by
                by_cases hn0 : 0 < n
                · exact h2.below hb2 (h1 hn0).2
                · intro t ht; omega
              have hz := hb.size
              have hb5 := hb.trans (hb2.mono (B' := w.heap.size) hb.size)
              have H1 : Hid _ := h1
              clear hb hb2 h2 h1
              go_wp2
              clear d0 k0 k1
              obtain ⟨pb, hpb⟩ : ∃ pb, pb = wr.heap.size := ⟨_, rfl⟩
              rw [← hpb] at bx H1 hz ⊢
              clear hpb
              go_loopw [11] (fun i wp => ∃ j : Nat, j ≤ n ∧ i = .int .i64 j ∧ Below w.heap.size w wp ∧ F2 wp pb 83 (.slice au n cu) (.int .i64 y) ∧ FAt wp S b n y) (fun i _ => n - (intOf i).toNat)
              case atStart => exact ⟨0, Nat.zero_le _, rfl, hb5, bx, h4⟩
              case round =>
                obtain ⟨j, hj, rfl, hb, bx', h5⟩ := hrel
                clear bx h4 hb5
                have d0 := bx'.c0
                have d1 := bx'.c1
                have s0 := bx'.lt
                by_cases hjn : j < n
                · obtain ⟨rfl, hbl⟩ := H1.out (by omega)
                  obtain ⟨f, hf, k0, k1, k2, k3⟩ := h5 j hjn
                  obtain ⟨q, c, rfl, hq, hqc⟩ := hf
                  simp only at k0 k1 k2 k3
                  have hf2 : MarkedF wr.drew S ⟨.slice (some ⟨q, 0, none⟩) 1 c, .slice none 0 0, .slice none 0 0, .slice none 0 0⟩ y := ⟨q, c, rfl, hq, hqc⟩
                  clear hq hqc
                  have s1 : b < wr.heap.size := by omega
                  go_wp2_with fail
                  go_region_held3 (fun w' => w'.cell? ⟨pb, 0, none⟩ = some (.slice (some ⟨b, 0, none⟩) n cu) ∧ w'.cell? ⟨pb, 1, none⟩ = some (.int .i64 y) ∧ w'.cell? ⟨b, j * 4, none⟩ = some (.slice (some ⟨q, 0, none⟩) 1 c) ∧ w'.cell? ⟨b, j * 4 + 1, none⟩ = some (.slice none 0 0) ∧ w'.cell? ⟨b, j * 4 + 2, none⟩ = some (.slice none 0 0) ∧ w'.cell? ⟨b, j * 4 + 3, none⟩ = some (.slice none 0 0))
                    (first | exact ⟨d0, d1, k0, k1, k2, k3⟩ | exact ⟨(hb3.cell (p := ⟨pb, 0, none⟩) s0).trans d0, (hb3.cell (p := ⟨pb, 1, none⟩) s0).trans d1, (hb3.cell (p := ⟨b, j * 4, none⟩) s1).trans k0, (hb3.cell (p := ⟨b, j * 4 + 1, none⟩) s1).trans k1, (hb3.cell (p := ⟨b, j * 4 + 2, none⟩) s1).trans k2, (hb3.cell (p := ⟨b, j * 4 + 3, none⟩) s1).trans k3⟩)
                    ((go_at_call 39; refine (marked_any S _ y _ hf2).mono ?_; rintro e w3 ⟨rfl, hb3⟩))
                  have hbw3 : Below w.heap.size w w3 := hb.drew.trans (hb3.mono (Nat.le_trans hz (Nat.le_of_lt s0)))
                  have bx3 : F2 w3 pb 83 (.slice (some ⟨b, 0, none⟩) n cu) (.int .i64 y) := (hb3.block pb s0).trans bx'
                  have h6 : FAt w3 S b n y := FAt.below (w := wr.drew) h5 hb3 s1
                  clear hb hb3 bx' k0 k1 k2 k3 d0 d1 h5 hf2
                  go_wp2
                  go_roundw
                  case rel => exact ⟨j + 1, hjn, by go_num, hbw3, bx3, h6⟩
                  case measure => simp [intOf]; omega
                · clear h5
                  go_wp2
                  go_roundw
                  case rel => exact ⟨k + 1, hlt, by go_num, hb⟩
                  case measure => simp [intOf]; omega
            · go_wp2
              go_ret
              exact ⟨rfl, hb⟩
end Go.Proofs.Ytjamgmbdilkbcaa

/- A state of the walk in memory; put, takeAny, take. -/
namespace Go.Proofs.Ytjamgmbdilkbcaa
open Go.RowKit

def sc (kn bad : Bool) (h : Nat) (arr : List Int) (full : List Bool) : List Value := .bool kn :: .bool bad :: .int .i64 h :: (arr.map (Value.int .i64) ++ full.map Value.bool)

structure SM (w : World) (q : Nat) (kn bad : Bool) (h : Nat) (arr : List Int) (full : List Bool) : Prop where
  b : w.heap[q]? = some (.cells (sc kn bad h arr full).toArray 160 (0, 0))
  ha : arr.length = 16
  hf : full.length = 8
  hh : h ≤ 16

/-- what a state in memory tells: none, if it is bad. -/
def told (bad : Bool) (h : Nat) (arr : List Int) (full : List Bool) : Option Fl.S := if bad = true then none else some ⟨arr.take h, full⟩

def SB (w : World) (q : Nat) (kn : Bool) (o : Option Fl.S) : Prop := ∃ bad h arr full, SM w q kn bad h arr full ∧ o = told bad h arr full

section
variable {w w' : World} {q : Nat} {kn bad : Bool} {h : Nat} {arr : List Int} {full : List Bool}
theorem SM.lt (s : SM w q kn bad h arr full) : q < w.heap.size := (Array.getElem?_eq_some_iff.1 s.b).1
theorem SM.cell (s : SM w q kn bad h arr full) (i : Nat) : w.cell? ⟨q, i, none⟩ = (sc kn bad h arr full)[i]? := by simp [World.cell?, s.b]
theorem SM.fz (s : SM w q kn bad h arr full) (i : Nat) : w.frozen? ⟨q, i, none⟩ = false := by simp [World.frozen?, s.b]
theorem SM.c0 (s : SM w q kn bad h arr full) : w.cell? ⟨q, 0, none⟩ = some (.bool kn) := by rw [s.cell]; rfl
theorem SM.c1 (s : SM w q kn bad h arr full) : w.cell? ⟨q, 1, none⟩ = some (.bool bad) := by rw [s.cell]; rfl
theorem SM.c2 (s : SM w q kn bad h arr full) : w.cell? ⟨q, 2, none⟩ = some (.int .i64 h) := by rw [s.cell]; rfl
theorem SM.cs (s : SM w q kn bad h arr full) (i : Nat) (hi : i < 16) : w.cell? ⟨q, 3 + i, none⟩ = some (.int .i64 (arr.getD i 0)) := by
  rw [s.cell, show 3 + i = i + 1 + 1 + 1 from by omega]
  simp only [sc, List.getElem?_cons_succ]
  rw [List.getElem?_append_left (by simp [s.ha]; exact hi)]
  simp [List.getD_eq_getElem?_getD, s.ha, hi]
theorem SM.cf (s : SM w q kn bad h arr full) (i : Nat) (hi : i < 8) : w.cell? ⟨q, 19 + i, none⟩ = some (.bool (full.getD i false)) := by
  rw [s.cell, show 19 + i = 16 + i + 1 + 1 + 1 from by omega]
  simp only [sc, List.getElem?_cons_succ]
  rw [List.getElem?_append_right (by simp [s.ha])]
  simp [List.getD_eq_getElem?_getD, s.ha, s.hf, hi]
theorem SM.set (s : SM w q kn bad h arr full) (i : Nat) (v : Value) : (w.setCell ⟨q, i, none⟩ v).heap[q]? = some (.cells ((sc kn bad h arr full).set i v).toArray 160 (0, 0)) := by
  simp [World.setCell, Array.getElem?_modify, s.b]
theorem SM.set1 (s : SM w q kn bad h arr full) (b : Bool) : SM (w.setCell ⟨q, 1, none⟩ (.bool b)) q kn b h arr full := ⟨s.set 1 _, s.ha, s.hf, s.hh⟩
theorem SM.set2 (s : SM w q kn bad h arr full) (n : Nat) (hn : n ≤ 16) : SM (w.setCell ⟨q, 2, none⟩ (.int .i64 n)) q kn bad n arr full := ⟨s.set 2 _, s.ha, s.hf, hn⟩
theorem SM.sets (s : SM w q kn bad h arr full) (i : Nat) (hi : i < 16) (k : Int) : SM (w.setCell ⟨q, 3 + i, none⟩ (.int .i64 k)) q kn bad h (arr.set i k) full := by
  refine ⟨?_, by simp [s.ha], s.hf, s.hh⟩
  rw [s.set, show 3 + i = i + 1 + 1 + 1 from by omega]
  simp only [sc, List.set_cons_succ]
  rw [List.set_append, if_pos (by simp [s.ha]; exact hi), List.map_set]
theorem SM.setf (s : SM w q kn bad h arr full) (i : Nat) (b : Bool) : SM (w.setCell ⟨q, 19 + i, none⟩ (.bool b)) q kn bad h arr (full.set i b) := by
  refine ⟨?_, s.ha, by simp [s.hf], s.hh⟩
  rw [s.set, show 19 + i = 16 + i + 1 + 1 + 1 from by omega]
  simp only [sc, List.set_cons_succ]
  rw [List.set_append, if_neg (by simp [s.ha]), List.map_set, List.length_map, s.ha, show 16 + i - 16 = i from by omega]
theorem SM.kept (s : SM w q kn bad h arr full) {r : Option Nat} (hg : w.grownBy w' r) (hr : some q ≠ r) : SM w' q kn bad h arr full := ⟨(hg.block q s.lt hr).trans s.b, s.ha, s.hf, s.hh⟩
end

theorem SM.drew {w : World} {q : Nat} {kn bad : Bool} {h : Nat} {arr : List Int} {full : List Bool} (s : SM w q kn bad h arr full) : SM w.drew q kn bad h arr full := ⟨s.b, s.ha, s.hf, s.hh⟩
theorem grown_drew {w w' : World} {r : Option Nat} (hg : w.grownBy w' r) : w.grownBy w'.drew r := ⟨hg.os, hg.tape, hg.output, hg.size, hg.block⟩
theorem SB.lt {w : World} {q : Nat} {kn : Bool} {o : Option Fl.S} (h : SB w q kn o) : q < w.heap.size := by
  obtain ⟨_, _, _, _, s, _⟩ := h
  exact s.lt
theorem SB.kept {w w' : World} {q : Nat} {kn : Bool} {o : Option Fl.S} (h : SB w q kn o) {r : Option Nat} (hg : w.grownBy w' r) (hr : some q ≠ r) : SB w' q kn o := by
  obtain ⟨bad, n, arr, full, s, ho⟩ := h
  exact ⟨bad, n, arr, full, s.kept hg hr, ho⟩

theorem told_put (bad : Bool) (h : Nat) (arr : List Int) (full : List Bool) (k : Int) (ha : arr.length = 16) (hh : h < 16) : (told bad h arr full).bind (Fl.putS k) = told bad (h + 1) (arr.set h k) full := by
  unfold told
  cases bad with
  | true => rfl
  | false =>
    simp only [Bool.false_eq_true, if_false, Option.bind_some, Fl.putS, List.length_take, ha]
    rw [if_pos (by omega), List.take_succ_eq_append_getElem (by simp [ha]; exact hh), List.take_set_of_le (Nat.le_refl _)]
    simp

theorem hid {p : Prop} (h : p) : Hid p := h

/-- the same but for what was drawn. -/
def Alike (w w' : World) : Prop := w'.heap = w.heap ∧ w'.os = w.os ∧ w'.tape = w.tape ∧ w'.output = w.output
theorem SB.alike {w w' : World} {q : Nat} {kn : Bool} {o : Option Fl.S} (h : SB w q kn o) (ha : Alike w w') : SB w' q kn o := by
  obtain ⟨bad, n, arr, full, s, ho⟩ := h
  exact ⟨bad, n, arr, full, ⟨by rw [ha.1]; exact s.b, s.ha, s.hf, s.hh⟩, ho⟩
theorem grown_alike {w w1 w' : World} {r : Option Nat} (hg : w.grownBy w1 r) (ha : Alike w1 w') : w.grownBy w' r :=
  ⟨ha.2.1.trans hg.os, ha.2.2.1.trans hg.tape, ha.2.2.2.trans hg.output, by rw [ha.1]; exact hg.size, fun k hk hr => by rw [ha.1]; exact hg.block k hk hr⟩

/-- what put leaves. -/
def Done (w w' : World) (q : Nat) (kn : Bool) (o : Option Fl.S) (e : Ending) : Prop := e = .returned (.tuple #[]) ∧ SB w' q kn o ∧ w.grownBy w' (some q)

set_option maxRecDepth 100000 in
set_option maxHeartbeats 1000000 in
theorem fput_any (q : Nat) (k : Int) (kn : Bool) (o : Option Fl.S) (w : World) (hs : SB w q kn o) :
    Calls Try.prog 126 #[.pointer (some ⟨q, 0, none⟩), .int .i64 k] w fun e w' => Done w w' q kn (o.bind (Fl.putS k)) e := by
  obtain ⟨bad, h, arr, full, s, rfl⟩ := hs
  have d1 := s.c1
  have d2 := s.c2
  have z1 := s.fz 1
  have z2 := s.fz 2
  have hh := s.hh
  by_cases hlt : h < 16
  · have dd := s.cs h hlt
    have zz := s.fz (3 + h)
    have s1 := s.sets h hlt k
    have e2 := s1.c2
    have y2 := s1.fz 2
    have s2 := s1.set2 (h + 1) (by omega)
    have fin : ∀ w', Alike ((w.setCell ⟨q, 3 + h, none⟩ (.int .i64 k)).setCell ⟨q, 2, none⟩ (.int .i64 ((h + 1 : Nat) : Int))) w' → Done w w' q kn ((told bad h arr full).bind (Fl.putS k)) (.returned (.tuple #[])) := fun w' ha =>
      ⟨rfl, SB.alike ⟨bad, h + 1, _, full, s2, told_put _ _ _ _ _ s.ha hlt⟩ ha, grown_alike (grown_trans (grown_set w q (3 + h) _) (grown_set _ q 2 _)) ha⟩
    have FIN := hid fin
    clear fin s s1 s2
    go_enter Try.func126, Try.ntmps126
    go_wp2
    go_region
    go_wp2
    go_end0
    exact FIN.out _ ⟨rfl, rfl, rfl, rfl⟩
  · have s1 := s.set1 true
    have fin : Done w (w.setCell ⟨q, 1, none⟩ (.bool true)) q kn ((told bad h arr full).bind (Fl.putS k)) (.returned (.tuple #[])) := by
      refine ⟨rfl, ⟨true, h, arr, full, s1, ?_⟩, grown_set w q 1 _⟩
      unfold told
      cases bad with
      | true => rfl
      | false =>
        simp only [Bool.false_eq_true, if_false, Option.bind_some, Fl.putS, List.length_take, s.ha]
        rw [if_neg (by omega)]
        rfl
    have FIN := hid fin
    clear fin s s1
    go_enter Try.func126, Try.ntmps126
    go_wp2
    refine bodyPost_ret (results_none rfl _ _ _) rfl ?_
    exact FIN.out

/-- what takeAny leaves. -/
def topS (o : Option Fl.S) : Option Fl.S := o.bind fun t => if t.stk = [] then none else some ⟨t.stk.dropLast, t.full⟩

def TakeOut (w w' : World) (q : Nat) (kn : Bool) (o : Option Fl.S) (e : Ending) : Prop :=
  ∃ k : Int, e = .returned (.int .i64 k) ∧ SB w' q kn (topS o) ∧ w.grownBy w' (some q) ∧ (∀ t, o = some t → t.stk ≠ [] → t.stk.getLast? = some k)

theorem told_top (bad : Bool) (h : Nat) (arr : List Int) (full : List Bool) (ha : arr.length = 16) (hh : h ≤ 16) (hp : 0 < h) : topS (told bad h arr full) = told bad (h - 1) arr full := by
  unfold told topS
  cases bad with
  | true => rfl
  | false =>
    simp only [Bool.false_eq_true, if_false, Option.bind_some]
    have hl : (arr.take h).length = h := by rw [List.length_take, ha]; omega
    rw [if_neg (by intro e; rw [e] at hl; simp at hl; omega)]
    rw [List.dropLast_eq_take, hl, List.take_take, Nat.min_eq_left (by omega)]

set_option maxRecDepth 100000 in
set_option maxHeartbeats 1000000 in
theorem ftakeAny_any (q : Nat) (kn : Bool) (o : Option Fl.S) (w : World) (hs : SB w q kn o) :
    Calls Try.prog 129 #[.pointer (some ⟨q, 0, none⟩)] w fun e w' => TakeOut w w' q kn o e := by
  obtain ⟨bad, h, arr, full, s, rfl⟩ := hs
  have d1 := s.c1
  have d2 := s.c2
  have z1 := s.fz 1
  have z2 := s.fz 2
  have hh := s.hh
  by_cases hlt : h < 1
  · have s1 := s.set1 true
    have fin : TakeOut w (w.setCell ⟨q, 1, none⟩ (.bool true)) q kn (told bad h arr full) (.returned (.int .i64 0)) := by
      have h0 : h = 0 := by omega
      subst h0
      refine ⟨0, rfl, ⟨true, 0, arr, full, s1, ?_⟩, grown_set w q 1 _, ?_⟩
      · unfold told topS
        cases bad <;> simp
      · intro t ht hne
        unfold told at ht
        cases bad with
        | true => simp at ht
        | false => simp at ht; subst ht; simp at hne
    have FIN := hid fin
    clear fin s s1
    go_enter Try.func129, Try.ntmps129
    go_wp2
    go_ret
    exact FIN.out
  · obtain ⟨n, rfl⟩ : ∃ n, h = n + 1 := ⟨h - 1, by omega⟩
    have s1 := s.set2 n (by omega)
    have e2 := s1.c2
    have ee := s1.cs n (by omega)
    have fin : ∀ w', Alike (w.setCell ⟨q, 2, none⟩ (.int .i64 (n : Int))) w' → TakeOut w w' q kn (told bad (n + 1) arr full) (.returned (.int .i64 (arr.getD n 0))) := by
      intro w' hw'
      refine ⟨_, rfl, SB.alike ⟨bad, n, arr, full, s1, told_top _ _ _ _ s.ha s.hh (by omega)⟩ hw', grown_alike (grown_set w q 2 (.int .i64 (n : Int))) hw', ?_⟩
      intro t ht hne
      unfold told at ht
      cases bad with
      | true => simp at ht
      | false =>
        simp at ht
        subst ht
        have ha := s.ha
        rw [List.getLast?_eq_getElem?, List.length_take, ha, Nat.min_eq_left s.hh, Nat.add_sub_cancel, List.getElem?_take, if_pos (by omega), List.getD_eq_getElem?_getD, List.getElem?_eq_getElem (by omega)]
        rfl
    have FIN := hid fin
    clear fin s s1
    go_enter Try.func129, Try.ntmps129
    go_wp2
    go_quiet (fail)
    go_wp2
    go_ret
    exact FIN.out _ ⟨rfl, rfl, rfl, rfl⟩
end Go.Proofs.Ytjamgmbdilkbcaa
