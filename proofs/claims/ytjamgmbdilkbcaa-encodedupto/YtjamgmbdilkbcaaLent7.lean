/- Lent.still. -/
import Derived.Test.YtjamgmbdilkbcaaLent6
namespace Go.Proofs.Ytjamgmbdilkbcaa
open Go.RowKit

theorem LS.below {w w' : World} {B px : Nat} {x0 x1 vi vc vf : Value} {R : List (Nat × List Int)} {C : List (Nat × List (Int × Int))} (s : LS w B px x0 x1 vi vc vf R C) (hb : Below w.heap.size w w') : LS w' B px x0 x1 vi vc vf R C :=
  s.move ((hb.block px s.h.lt).trans s.h) (fun g _ _ hc _ => hb.block g (Array.getElem?_eq_some_iff.1 hc).1)
theorem owns_below {w w' : World} {B e size n : Nat} {v : Value} {xs : List Value} (h : w.ownsRow B e size v n xs) (hb : Below w.heap.size w w') : w'.ownsRow B e size v n xs := owns_block h (fun k e => hb.block k (owns_lt h e))
theorem LentI.inks {w : World} {g : Nat} {l : List Int} (h : LentI w g l) : w.cell? ⟨g, l.length, none⟩ = some (.int .i64 ink) ∧ w.cell? ⟨g, l.length + 1, none⟩ = some (.int .i64 ink) := by
  refine ⟨(World.ownsRow.cellAt h l.length (by omega)).trans ?_, (World.ownsRow.cellAt h (l.length + 1) (by omega)).trans ?_⟩
  · rw [List.getElem?_append_right (by simp)]; simp
  · rw [List.getElem?_append_right (by simp)]; simp
theorem LentC.inks {w : World} {g : Nat} {l : List (Int × Int)} (h : LentC w g l) : w.cell? ⟨g, l.length * 2, none⟩ = some (.int .i64 ink) ∧ w.cell? ⟨g, l.length * 2 + 1, none⟩ = some (.int .i64 (-ink)) ∧ w.cell? ⟨g, (l.length + 1) * 2, none⟩ = some (.int .i64 ink) ∧ w.cell? ⟨g, (l.length + 1) * 2 + 1, none⟩ = some (.int .i64 (-ink)) := by
  have hl := cc_len l
  have hs : insts 2 ink (-ink) = [.int .i64 ink, .int .i64 (-ink), .int .i64 ink, .int .i64 (-ink)] := rfl
  refine ⟨(World.ownsRow.cellAt h _ (by omega)).trans ?_, (World.ownsRow.cellAt h _ (by omega)).trans ?_, (World.ownsRow.cellAt h _ (by omega)).trans ?_, (World.ownsRow.cellAt h _ (by omega)).trans ?_⟩
  · rw [List.getElem?_append_right (by omega), hl, hs, show l.length * 2 - l.length * 2 = 0 from by omega]; rfl
  · rw [List.getElem?_append_right (by omega), hl, hs, show l.length * 2 + 1 - l.length * 2 = 1 from by omega]; rfl
  · rw [List.getElem?_append_right (by omega), hl, hs, show (l.length + 1) * 2 - l.length * 2 = 2 from by omega]; rfl
  · rw [List.getElem?_append_right (by omega), hl, hs, show (l.length + 1) * 2 + 1 - l.length * 2 = 3 from by omega]; rfl

theorem Rof_small {N : Nat} : ∀ (fs : List Pu.Fn) (ds : List (Nat × Nat × Nat × Nat)), (∀ f ∈ fs, f.params.length ≤ N ∧ f.results.length ≤ N ∧ f.locals.length ≤ N) → ∀ r ∈ Rof fs ds, r.2.length ≤ N
  | f :: fs, d :: ds, h, r, hr => by
    have hf := h f (by simp)
    simp only [Rof, List.mem_cons] at hr
    rcases hr with rfl | rfl | rfl | hr
    · exact hf.1
    · exact hf.2.1
    · exact hf.2.2
    · exact Rof_small fs ds (fun f hf => h f (by simp [hf])) r hr
  | [], _, _, _, hr => by simp [Rof] at hr
  | _ :: _, [], _, _, hr => by simp [Rof] at hr
theorem Cof_small {N : Nat} : ∀ (fs : List Pu.Fn) (ds : List (Nat × Nat × Nat × Nat)), (∀ f ∈ fs, f.code.length ≤ N) → ∀ r ∈ Cof fs ds, r.2.length ≤ N
  | f :: fs, d :: ds, h, r, hr => by
    simp only [Cof, List.mem_cons] at hr
    rcases hr with rfl | hr
    · exact h f (by simp)
    · exact Cof_small fs ds (fun f hf => h f (by simp [hf])) r hr
  | [], _, _, _, hr => by simp [Cof] at hr
  | _ :: _, [], _, _, hr => by simp [Cof] at hr

/-- what still leans on. -/
structure SI (w : World) (B px gk gf : Nat) (vi vc kv vv : Value) (m : Pu.Md) (D : List (Nat × Nat × Nat × Nat)) (ms : List FV) (S : Nat → Prop) (bx : Nat) : Prop where
  s : LS w B px (front gk m.kinds.length) (front gf m.funcs.length) vi vc (sl gf m.funcs.length) ((gk, m.kinds) :: Rof m.funcs D) (Cof m.funcs D)
  row : w.ownsRow B 86 4 (sl gf m.funcs.length) (m.funcs.length + 2) (fc (lfvs m.funcs D ++ ms))
  ms : ∀ f ∈ ms, MarkedF w S f ink
  bm : F2 w bx 33 kv vv

theorem SI.below {w w' : World} {B px gk gf : Nat} {vi vc kv vv : Value} {m : Pu.Md} {D : List (Nat × Nat × Nat × Nat)} {ms : List FV} {S : Nat → Prop} {bx : Nat} (h : SI w B px gk gf vi vc kv vv m D ms S bx) (hb : Below w.heap.size w w') : SI w' B px gk gf vi vc kv vv m D ms S bx :=
  ⟨h.s.below hb, owns_below h.row hb, fun f hf => (h.ms f hf).below hb, (hb.block bx h.bm.lt).trans h.bm⟩

/-- the two inks of a list of instructions, at a later world. -/
abbrev JS (wr : World) (g a b c d : Nat) (w : World) : Prop := Below wr.heap.size wr w ∧ w.cell? ⟨g, a, none⟩ = some (.int .i64 ink) ∧ w.cell? ⟨g, b, none⟩ = some (.int .i64 (-ink)) ∧ w.cell? ⟨g, c, none⟩ = some (.int .i64 ink) ∧ w.cell? ⟨g, d, none⟩ = some (.int .i64 (-ink))
theorem JS.step {wr w1 w2 : World} {g a b c d : Nat} (hg : g < wr.heap.size) (h : JS wr g a b c d wr) (h1 : Below wr.heap.size wr w1) (h2 : Below w1.heap.size w1 w2) : JS wr g a b c d w2 := by
  have hb : Below wr.heap.size wr w2 := h1.trans (h2.mono h1.size)
  exact ⟨hb, (hb.cell (p := ⟨g, a, none⟩) hg).trans h.2.1, (hb.cell (p := ⟨g, b, none⟩) hg).trans h.2.2.1, (hb.cell (p := ⟨g, c, none⟩) hg).trans h.2.2.2.1, (hb.cell (p := ⟨g, d, none⟩) hg).trans h.2.2.2.2⟩

set_option maxRecDepth 100000 in
set_option maxHeartbeats 4000000 in
theorem still_any (B px gk gf : Nat) (vi vc kv vv : Value) (m : Pu.Md) (D : List (Nat × Nat × Nat × Nat)) (ms : List FV) (S : Nat → Prop) (w : World)
    (s : LS w B px (front gk m.kinds.length) (front gf m.funcs.length) vi vc (sl gf m.funcs.length) ((gk, m.kinds) :: Rof m.funcs D) (Cof m.funcs D)) (hD : D.length = m.funcs.length)
    (ro : w.ownsRow B 86 4 (sl gf m.funcs.length) (m.funcs.length + 2) (fc (lfvs m.funcs D ++ ms))) (hml : ms.length = 2) (hms : ∀ f ∈ ms, MarkedF w S f ink)
    (hx : MdR w w.heap.size (front gk m.kinds.length) (front gf m.funcs.length) m) (hm : MdR w w.heap.size kv vv m) (hk : m.kinds.length ≤ 1500000) (hn : m.funcs.length ≤ 1500000) (hs : ∀ f ∈ m.funcs, f.params.length ≤ 1500000 ∧ f.results.length ≤ 1500000 ∧ f.locals.length ≤ 1500000 ∧ f.code.length ≤ 1500000) :
    Calls Try.prog 42 #[.pointer (some ⟨px, 0, none⟩), .agg #[kv, vv]] w fun e w' => e = .returned (.bool true) ∧ Below w.heap.size w w' := by
  obtain ⟨a1, c1, rfl⟩ := hm.k.shape
  obtain ⟨a2, c2, rfl⟩ := hm.v.shape
  obtain ⟨ai, ci, rfl⟩ := owns_shape s.oi
  obtain ⟨ac, cc, rfl⟩ := owns_shape s.oc
  obtain ⟨W0, hW0⟩ : ∃ W0, W0 = w.alloc (.cells #[.slice a1 m.kinds.length c1, .slice a2 m.funcs.length c2] 33) := ⟨_, rfl⟩
  have hb0 : Below w.heap.size w W0 := by rw [hW0]; exact (Below.refl w.heap.size w).alloc (Nat.le_refl _) _
  have I0 : SI W0 B px gk gf (.slice ai _ ci) (.slice ac _ cc) (.slice a1 m.kinds.length c1) (.slice a2 m.funcs.length c2) m D ms S w.heap.size :=
    ⟨s.below hb0, owns_below ro hb0, fun f hf => (hms f hf).below hb0, by rw [hW0]; exact heap_alloc_new w _⟩
  have hx0 : MdR W0.drew W0.drew.heap.size (front gk m.kinds.length) (front gf m.funcs.length) m := ((hx.below hb0).wide hb0.size).below ((Below.refl _ _).drew)
  have hm0 : MdR W0.drew W0.drew.heap.size (.slice a1 m.kinds.length c1) (.slice a2 m.funcs.length c2) m := ((hm.below hb0).wide hb0.size).below ((Below.refl _ _).drew)
  have HW : Hid _ := hW0
  have HS : Hid _ := hs
  have HD : Hid _ := hD
  have HML : Hid _ := hml
  have HRL : Hid (∀ r ∈ (gk, m.kinds) :: Rof m.funcs D, r.2.length ≤ 1500000) := fun r hr => by
    rcases List.mem_cons.1 hr with h | h
    · rw [h]; exact hk
    · exact Rof_small m.funcs D (fun f hf => ⟨(HS.out f hf).1, (HS.out f hf).2.1, (HS.out f hf).2.2.1⟩) r h
  have HCL : Hid (∀ r ∈ Cof m.funcs D, r.2.length ≤ 1500000) := fun r hr => Cof_small m.funcs D (fun f hf => (HS.out f hf).2.2.2) r hr
  have d0 := I0.s.h.c0
  have d1 := I0.s.h.c1
  have b0 := I0.bm.c0
  have b1 := I0.bm.c1
  have p0 := I0.s.h.lt
  have p1 := I0.bm.lt
  have HI : Hid _ := I0
  unfold front at d0 d1
  clear hW0 hs hD hml s ro hms hx hm I0
  go_enter Try.func42, Try.ntmps42
  go_wp2_with fail
  rw [← HW.out]
  clear HW
  go_region_held3 (fun w' => w'.cell? ⟨px, 0, none⟩ = some (.slice (some ⟨gk, 0, none⟩) m.kinds.length (m.kinds.length + 2)) ∧ w'.cell? ⟨px, 1, none⟩ = some (.slice (some ⟨gf, 0, none⟩) m.funcs.length (m.funcs.length + 2)) ∧ w'.cell? ⟨w.heap.size, 0, none⟩ = some (.slice a1 m.kinds.length c1) ∧ w'.cell? ⟨w.heap.size, 1, none⟩ = some (.slice a2 m.funcs.length c2))
    (first | exact ⟨d0, d1, b0, b1⟩ | exact ⟨(hb3.cell (p := ⟨px, 0, none⟩) p0).trans d0, (hb3.cell (p := ⟨px, 1, none⟩) p0).trans d1, (hb3.cell (p := ⟨w.heap.size, 0, none⟩) p1).trans b0, (hb3.cell (p := ⟨w.heap.size, 1, none⟩) p1).trans b1⟩)
    ((go_at_call 34; refine (sameModule_same m _ _ _ _ _ hx0 hm0).mono ?_; rintro e w3 ⟨rfl, hb3⟩))
  have hb : Below W0.heap.size W0 w3 := ((Below.refl _ _).drew).trans hb3
  clear hb3 d0 d1 b0 b1 hx0 hm0
  go_wp2
  generalize hR : (gk, m.kinds) :: Rof m.funcs D = R at *
  generalize hC : Cof m.funcs D = C at *
  have HRR : Hid _ := hR
  have HCC : Hid _ := hC
  have hrl : R.length ≤ 4500001 := by rw [← hR]; have := Rof_len m.funcs D; simp; omega
  have hcl : C.length ≤ 1500000 := by rw [← hC]; have := Cof_len m.funcs D; omega
  clear hR hC
  go_loopw [5, 6] (fun s i wr => ∃ k : Nat, k ≤ R.length ∧ s = .bool true ∧ i = .int .i64 k ∧ Below W0.heap.size W0 wr) (fun _ i _ => R.length - (intOf i).toNat)
  case atStart => exact ⟨0, Nat.zero_le _, rfl, rfl, hb⟩
  case round =>
    obtain ⟨k, hk, rfl, rfl, hb⟩ := hrel
    have I := HI.out.below hb
    have Is := I.s
    rw [HRR.out, HCC.out] at Is
    have d2 := Is.h.c2
    by_cases hlt : k < R.length
    · obtain ⟨g0, rfl⟩ : ∃ g0, ai = some ⟨g0, 0, none⟩ := by
        rcases Is.oi.2 with ⟨_, h0⟩ | ⟨g0, cap', cur, h0, _⟩
        · omega
        · simp only [Value.slice.injEq] at h0
          exact ⟨g0, h0.1⟩
      have k0 := Is.oi.cellAt k (by omega)
      rw [List.getElem?_map, List.getElem?_eq_getElem hlt] at k0
      have hmem := List.getElem_mem hlt
      have hin := (Is.ri _ hmem).1.inks
      have hsl := HRL.out _ hmem
      generalize R[k] = r at *
      obtain ⟨g, l⟩ := r
      simp only [Option.map_some, sl] at k0 hin hsl
      obtain ⟨j0, j1⟩ := hin
      clear I Is hmem
      go_wp2
      go_roundw
      case rel => exact ⟨k + 1, hlt, rfl, by go_num, hb⟩
      case measure => simp [intOf]; omega
    · clear I Is
      go_wp2
      clear d2 hlt hk
      go_loopw [5, 8] (fun s i wr => ∃ k : Nat, k ≤ C.length ∧ s = .bool true ∧ i = .int .i64 k ∧ Below W0.heap.size W0 wr) (fun _ i _ => C.length - (intOf i).toNat)
      case atStart => exact ⟨0, Nat.zero_le _, rfl, rfl, hb⟩
      case round =>
        obtain ⟨k, hk, rfl, rfl, hb⟩ := hrel
        have I := HI.out.below hb
        have Is := I.s
        rw [HRR.out, HCC.out] at Is
        have d3 := Is.h.c3
        by_cases hlt : k < C.length
        · obtain ⟨g0, rfl⟩ : ∃ g0, ac = some ⟨g0, 0, none⟩ := by
            rcases Is.oc.2 with ⟨_, h0⟩ | ⟨g0, cap', cur, h0, _⟩
            · omega
            · simp only [Value.slice.injEq] at h0
              exact ⟨g0, h0.1⟩
          have k0 := Is.oc.cellAt k (by omega)
          rw [List.getElem?_map, List.getElem?_eq_getElem hlt] at k0
          have hmem := List.getElem_mem hlt
          have hin := (Is.rc _ hmem).1.inks
          have hgl := (Array.getElem?_eq_some_iff.1 (Is.rc _ hmem).1.ty.choose_spec).1
          have hsl := HCL.out _ hmem
          generalize C[k] = r at *
          obtain ⟨g, l⟩ := r
          simp only [Option.map_some, sl] at k0 hin hsl hgl
          obtain ⟨j0, j1, j2, j3⟩ := hin
          clear I Is hmem
          have J0 : JS wr g (l.length * 2) (l.length * 2 + 1) ((l.length + 1) * 2) ((l.length + 1) * 2 + 1) wr := ⟨Below.refl _ _, j0, j1, j2, j3⟩
          clear j0 j1 j2 j3
          have q1 : IntKind.i64.wrap ((l.length : Int) + 2 - 1) = (l.length : Int) + 1 := (IntWalk.i64_in _ (by omega)).trans (by omega)
          have q2 : IntKind.i64.wrap (l.length : Int) = (l.length : Int) := IntWalk.i64_in _ (by omega)
          have q3 : (0 : Int) ≤ (l.length : Int) := by omega
          have t1 : ((l.length : Int) + 1).toNat = l.length + 1 := by omega
          have t2 : (0 : Int) ≤ (l.length : Int) + 1 := by omega
          have t3 : (l.length : Int) + 1 < (l.length : Int) + 2 := by omega
          have t4 : (l.length : Int) < (l.length : Int) + 2 := by omega
          have t5 : l.length + 1 < l.length + 2 := by omega
          have t6 : l.length < l.length + 2 := by omega
          go_wp2_with fail
          go_region_held3 (fun w' => Below wr.heap.size wr w' ∧ w'.cell? ⟨g, l.length * 2, none⟩ = some (.int .i64 ink) ∧ w'.cell? ⟨g, l.length * 2 + 1, none⟩ = some (.int .i64 (-ink)) ∧ w'.cell? ⟨g, (l.length + 1) * 2, none⟩ = some (.int .i64 ink) ∧ w'.cell? ⟨g, (l.length + 1) * 2 + 1, none⟩ = some (.int .i64 (-ink)))
            (first | exact J0 | exact JS.step hgl J0 (Below.refl _ _) (Below.refl _ _).drew | exact JS.step hgl J0 ((Below.refl _ _).drew) hb3 | exact JS.step hgl J0 (by assumption) hb3 | exact JS.step hgl J0 (show JS wr g (l.length * 2) (l.length * 2 + 1) ((l.length + 1) * 2) ((l.length + 1) * 2 + 1) _ by assumption).1 hb3)
            ((go_at_call 76; refine (inkInstr_any _).mono ?_; rintro e w3 ⟨rfl, hg3⟩; have hb3 := below_grown hg3; clear hg3))
          have hbw : Below wr.heap.size wr w3 := (show JS wr g (l.length * 2) (l.length * 2 + 1) ((l.length + 1) * 2) ((l.length + 1) * 2 + 1) w3 by assumption).1
          have hb4 : Below W0.heap.size W0 w3 := hb.trans (hbw.mono hb.size)
          clear hb hbw J0 hb3
          go_wp2
          go_roundw
          case rel => exact ⟨k + 1, hlt, rfl, by go_num, hb4⟩
          case measure => simp [intOf]; omega
        · have b1 := I.bm.c1
          clear I Is
          go_wp2
          clear d3 b1 hlt hk
          go_loopw [5, 10] (fun s i wr => ∃ j : Nat, j ≤ 2 ∧ s = .bool true ∧ i = .int .i64 ((m.funcs.length + j : Nat) : Int) ∧ Below W0.heap.size W0 wr) (fun _ i _ => m.funcs.length + 2 - (intOf i).toNat)
          case atStart => exact ⟨0, by omega, rfl, rfl, hb⟩
          case round =>
            obtain ⟨j, hj, rfl, rfl, hb⟩ := hrel
            have I := HI.out.below hb
            have d4 := I.s.h.c4
            unfold sl at d4
            have s0 := I.s.h.lt
            by_cases hlt : j < 2
            · obtain ⟨f, hf, q0, q1, q2, q3⟩ := fc_at ms j (by rw [HML.out]; exact hlt)
              have hfr : ∀ t, (fc (lfvs m.funcs D ++ ms))[(m.funcs.length + j) * 4 + t]? = (fc ms)[j * 4 + t]? := fun t => by
                have hl := lfvs_len m.funcs D HD.out.symm
                rw [fc_append, List.getElem?_append_right (by rw [fc_len, hl]; omega), fc_len, hl]
                congr 1
                omega
              have k0 := (I.row.cellAt ((m.funcs.length + j) * 4) (by omega)).trans ((hfr 0).trans q0)
              have k1 := (I.row.cellAt ((m.funcs.length + j) * 4 + 1) (by omega)).trans ((hfr 1).trans q1)
              have k2 := (I.row.cellAt ((m.funcs.length + j) * 4 + 2) (by omega)).trans ((hfr 2).trans q2)
              have k3 := (I.row.cellAt ((m.funcs.length + j) * 4 + 3) (by omega)).trans ((hfr 3).trans q3)
              have hgf : gf < wr.heap.size := owns_lt I.row rfl
              obtain ⟨q, c, rfl, hq, hqc⟩ := I.ms f hf
              simp only at k0 k1 k2 k3
              have hf2 : MarkedF wr S ⟨.slice (some ⟨q, 0, none⟩) 1 c, .slice none 0 0, .slice none 0 0, .slice none 0 0⟩ ink := ⟨q, c, rfl, hq, hqc⟩
              clear hq hqc hfr q0 q1 q2 q3 hf I
              go_wp2_with fail
              refine (marked_any S _ ink _ hf2).mono ?_
              rintro e w5 ⟨rfl, hb5⟩
              have hb6 : Below W0.heap.size W0 w5 := hb.trans (hb5.mono hb.size)
              clear hb hb5 hf2 k0 k1 k2 k3 d4
              go_wp2
              go_roundw
              case rel => exact ⟨j + 1, by omega, rfl, by go_num, hb6⟩
              case measure => simp [intOf]; omega
            · clear I
              go_wp2
              go_ret
              exact ⟨rfl, hb0.trans (hb.mono hb0.size)⟩
end Go.Proofs.Ytjamgmbdilkbcaa
