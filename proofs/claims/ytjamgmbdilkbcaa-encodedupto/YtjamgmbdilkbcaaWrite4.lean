/- The walks of wire's writer: isModule. -/
import Derived.Test.YtjamgmbdilkbcaaWrite3
import Derived.Deep.RegionHeld3
namespace Go.Proofs.Ytjamgmbdilkbcaa
open Go.RowKit

/-- v is a list of the functions fs, whose lists are the values xs. -/
def FnsR (w : World) (B : Nat) (v : Value) (fs : List Pu.Fn) : Prop :=
  ∃ (ao : Option Addr) (cap b off : Nat), v = .slice ao fs.length cap ∧ (0 < fs.length → ao = some ⟨b, off, none⟩ ∧ b < B) ∧
    ∀ j, j < fs.length → ∃ x : FV, w.cell? ⟨b, off + j * 4, none⟩ = some x.p ∧ w.cell? ⟨b, off + j * 4 + 1, none⟩ = some x.r ∧ w.cell? ⟨b, off + j * 4 + 2, none⟩ = some x.l ∧ w.cell? ⟨b, off + j * 4 + 3, none⟩ = some x.c ∧
      FnR w B x (fs.getD j ⟨[], [], [], []⟩)

theorem FnsR.below {w w' : World} {B : Nat} {v : Value} {fs : List Pu.Fn} (h : FnsR w B v fs) (hb : Below B w w') : FnsR w' B v fs := by
  obtain ⟨ao, cap, b, off, hv, h1, h2⟩ := h
  refine ⟨ao, cap, b, off, hv, h1, fun j hj => ?_⟩
  obtain ⟨x, g0, g1, g2, g3, hx⟩ := h2 j hj
  have hbB := (h1 (by omega)).2
  exact ⟨x, (hb.cell (p := ⟨b, off + j * 4, none⟩) hbB).trans g0, (hb.cell (p := ⟨b, off + j * 4 + 1, none⟩) hbB).trans g1, (hb.cell (p := ⟨b, off + j * 4 + 2, none⟩) hbB).trans g2, (hb.cell (p := ⟨b, off + j * 4 + 3, none⟩) hbB).trans g3, hx.below hb⟩

theorem FnR.wide {w : World} {B B' : Nat} {x : FV} {f : Pu.Fn} (h : FnR w B x f) (hB : B ≤ B') : FnR w B' x f :=
  ⟨h.p.wide hB, h.r.wide hB, h.l.wide hB, h.c.wide hB, h.np, h.nr, h.nl, h.nc⟩

theorem FnsR.wide {w : World} {B B' : Nat} {v : Value} {fs : List Pu.Fn} (h : FnsR w B v fs) (hB : B ≤ B') : FnsR w B' v fs := by
  obtain ⟨ao, cap, b, off, hv, h1, h2⟩ := h
  refine ⟨ao, cap, b, off, hv, fun hl => ⟨(h1 hl).1, Nat.lt_of_lt_of_le (h1 hl).2 hB⟩, fun j hj => ?_⟩
  obtain ⟨x, g0, g1, g2, g3, hx⟩ := h2 j hj
  exact ⟨x, g0, g1, g2, g3, hx.wide hB⟩

theorem FnsR.shape {w : World} {B : Nat} {v : Value} {l : List Pu.Fn} (h : FnsR w B v l) : ∃ ao cap, v = .slice ao l.length cap := by
  obtain ⟨ao, cap, b, off, hv, _⟩ := h
  exact ⟨ao, cap, hv⟩

/-- the values k, v are the module m. -/
structure MdR (w : World) (B : Nat) (k v : Value) (m : Pu.Md) : Prop where
  k : IntsR w B k m.kinds
  v : FnsR w B v m.funcs
  nk : m.kinds.length ≤ maxLen
  nf : m.funcs.length ≤ maxLen

theorem MdR.below {w w' : World} {B : Nat} {k v : Value} {m : Pu.Md} (h : MdR w B k v m) (hb : Below B w w') : MdR w' B k v m :=
  ⟨h.k.below hb, h.v.below hb, h.nk, h.nf⟩
theorem MdR.wide {w : World} {B B' : Nat} {k v : Value} {m : Pu.Md} (h : MdR w B k v m) (hB : B ≤ B') : MdR w B' k v m :=
  ⟨h.k.wide hB, h.v.wide hB, h.nk, h.nf⟩

set_option maxHeartbeats 2000000 in
theorem isModule_any (m : Pu.Md) (kv vv : Value) (w : World) (h : MdR w w.heap.size kv vv m) :
    Calls Try.prog 79 #[.agg #[kv, vv]] w fun e w' => e = .returned (.bool (Pu.isMd m)) ∧ Below w.heap.size w w' := by
  obtain ⟨a1, c1, rfl⟩ := h.k.shape
  have hbx : F2 (w.alloc (.cells #[.slice a1 m.kinds.length c1, vv] 33)) w.heap.size 33 (.slice a1 m.kinds.length c1) vv := heap_alloc_new w _
  have hb0 := (Below.refl w.heap.size w).alloc (Nat.le_refl _) (.cells #[.slice a1 m.kinds.length c1, vv] 33)
  have h0 := h.below hb0
  have hnf := h.nf
  clear h
  unfold maxLen at hnf
  have hv := h0.v
  obtain ⟨ao, cap, b, off, rfl, h1, h2⟩ := hv
  cases hq1 : Pu.isList m.kinds 6 3 with
  | false =>
    have H0 : Hid (Pu.isMd m = false) := by show _ = _; simp [Pu.isMd, hq1]
    have H1 : Hid _ := hq1
    clear hq1 h1 h2
    go_enter Try.func79, Try.ntmps79
    go_wp2_with fail
    refine (isList_any m.kinds 6 3 _ _ _ h0.k h0.nk).mono ?_
    rintro e w1 ⟨rfl, rfl⟩
    rw [H1.out]
    go_wp2
    go_ret
    exact ⟨ret_bool H0.out, hb0⟩
  | true =>
    have H1 : Hid _ := hq1
    have H0 : Hid (Pu.isMd m = (decide (1 ≤ m.funcs.length) && (decide (m.funcs.length ≤ 8) && m.funcs.all fun f => Pu.isFn f m.kinds.length m.funcs.length))) := by
      show _ = _
      simp [Pu.isMd, hq1]
    have hl1 : m.kinds.length ≤ 6 := by simp [Pu.isList] at hq1; omega
    clear hq1
    by_cases hn0 : m.funcs.length < 1
    · clear h1 h2
      go_enter Try.func79, Try.ntmps79
      go_wp2_with fail
      refine (isList_any m.kinds 6 3 _ _ _ h0.k h0.nk).mono ?_
      rintro e w1 ⟨rfl, rfl⟩
      rw [H1.out]
      go_wp2
      go_ret
      exact ⟨ret_bool (by rw [H0.out]; simp; omega), hb0⟩
    · by_cases hn1 : 8 < m.funcs.length
      · clear h1 h2
        go_enter Try.func79, Try.ntmps79
        go_wp2_with fail
        refine (isList_any m.kinds 6 3 _ _ _ h0.k h0.nk).mono ?_
        rintro e w1 ⟨rfl, rfl⟩
        rw [H1.out]
        go_wp2
        go_ret
        exact ⟨ret_bool (by rw [H0.out]; simp; omega), hb0⟩
      · have H9 : Hid (Pu.isMd m = m.funcs.all fun f => Pu.isFn f m.kinds.length m.funcs.length) := by
          show _ = _
          rw [H0.out, show decide (1 ≤ m.funcs.length) = true from by simp; omega, show decide (m.funcs.length ≤ 8) = true from by simp; omega]
          simp
        clear H0
        obtain ⟨rfl, hbB⟩ := h1 (by omega)
        clear h1
        have H2 : Hid _ := h2
        clear h2
        go_enter Try.func79, Try.ntmps79
        go_wp2_with fail
        refine (isList_any m.kinds 6 3 _ _ _ h0.k h0.nk).mono ?_
        rintro e w1 ⟨rfl, rfl⟩
        rw [H1.out]
        go_wp2
        go_loopw [3] (fun i wr => ∃ k : Nat, k ≤ m.funcs.length ∧ i = .int .i64 k ∧ (m.funcs.take k).all (fun f => Pu.isFn f m.kinds.length m.funcs.length) = true ∧ F2 wr w.heap.size 33 (.slice a1 m.kinds.length c1) (.slice (some ⟨b, off, none⟩) m.funcs.length cap) ∧ Below w.heap.size w wr ∧
            Below w.heap.size (w.alloc (.cells #[.slice a1 m.kinds.length c1, .slice (some ⟨b, off, none⟩) m.funcs.length cap] 33)) wr) (fun i _ => m.funcs.length - (intOf i).toNat)
        case atStart => exact ⟨0, Nat.zero_le _, rfl, by simp, hbx, hb0, Below.refl _ _⟩
        case round =>
          obtain ⟨k, hk, rfl, ha, hbx', hbw, hba⟩ := hrel
          clear hbx hb0 h0
          have d0 := hbx'.c0
          have d1 := hbx'.c1
          have hbl := hbx'.lt
          by_cases hlt : k < m.funcs.length
          · obtain ⟨x, g0, g1, g2, g3, hx⟩ := H2.out k hlt
            obtain ⟨x1, y1, x2, y2, x3, y3, x4, y4, rfl⟩ := hx.shape
            have k0 := (hba.cell (p := ⟨b, off + k * 4, none⟩) hbB).trans g0
            have k1 := (hba.cell (p := ⟨b, off + k * 4 + 1, none⟩) hbB).trans g1
            have k2 := (hba.cell (p := ⟨b, off + k * 4 + 2, none⟩) hbB).trans g2
            have k3 := (hba.cell (p := ⟨b, off + k * 4 + 3, none⟩) hbB).trans g3
            have hxr := hx.below hba
            clear g0 g1 g2 g3 hx
            have HT : Hid _ := take_all_snoc m.funcs (fun f => Pu.isFn f m.kinds.length m.funcs.length) k ⟨[], [], [], []⟩ hlt
            have HF : Hid _ := all_false_of m.funcs (fun f => Pu.isFn f m.kinds.length m.funcs.length) k ⟨[], [], [], []⟩ hlt
            have HA : Hid _ := ha
            clear ha
            generalize m.funcs.getD k ⟨[], [], [], []⟩ = f at *
            simp only at *
            go_wp2_with fail
            have hxd : FnR wr.drew wr.drew.heap.size ⟨.slice x1 f.params.length y1, .slice x2 f.results.length y2, .slice x3 f.locals.length y3, .slice x4 f.code.length y4⟩ f := (hxr.wide (Nat.le_of_lt hbl)).below ⟨rfl, rfl, rfl, Nat.le_refl _, fun _ _ => rfl⟩
            clear hxr
            have hk2 : 0 ≤ (m.kinds.length : Int) ∧ (m.kinds.length : Int) ≤ 1000 := by omega
            have hf2 : 0 ≤ (m.funcs.length : Int) ∧ (m.funcs.length : Int) ≤ 1000 := by omega
            go_region_held3 (fun w' => w'.cell? ⟨w.heap.size, 0, none⟩ = some (.slice a1 m.kinds.length c1) ∧ w'.cell? ⟨w.heap.size, 1, none⟩ = some (.slice (some ⟨b, off, none⟩) m.funcs.length cap) ∧ w'.cell? ⟨b, off + k * 4, none⟩ = some (.slice x1 f.params.length y1) ∧ w'.cell? ⟨b, off + k * 4 + 1, none⟩ = some (.slice x2 f.results.length y2) ∧ w'.cell? ⟨b, off + k * 4 + 2, none⟩ = some (.slice x3 f.locals.length y3) ∧ w'.cell? ⟨b, off + k * 4 + 3, none⟩ = some (.slice x4 f.code.length y4))
              (first | exact ⟨d0, d1, k0, k1, k2, k3⟩ | exact ⟨(hb3.cell (p := ⟨w.heap.size, 0, none⟩) hbl).trans d0, (hb3.cell (p := ⟨w.heap.size, 1, none⟩) hbl).trans d1, (hb3.cell (p := ⟨b, off + k * 4, none⟩) (Nat.lt_trans hbB hbl)).trans k0, (hb3.cell (p := ⟨b, off + k * 4 + 1, none⟩) (Nat.lt_trans hbB hbl)).trans k1, (hb3.cell (p := ⟨b, off + k * 4 + 2, none⟩) (Nat.lt_trans hbB hbl)).trans k2, (hb3.cell (p := ⟨b, off + k * 4 + 3, none⟩) (Nat.lt_trans hbB hbl)).trans k3⟩)
              ((go_at_call 100; refine (isFunction_any f ⟨.slice x1 f.params.length y1, .slice x2 f.results.length y2, .slice x3 f.locals.length y3, .slice x4 f.code.length y4⟩ m.kinds.length m.funcs.length _ hxd hk2 hf2).mono ?_; rintro e w3 ⟨rfl, hb3⟩))
            all_goals
              have hbw3 : Below w.heap.size w w3 := hbw.drew.trans (hb3.mono (Nat.le_of_lt hbl))
              have hba3 : Below w.heap.size (w.alloc (.cells #[.slice a1 m.kinds.length c1, .slice (some ⟨b, off, none⟩) m.funcs.length cap] 33)) w3 := hba.drew.trans (hb3.mono (Nat.le_of_lt hbl))
              have hbx3 : F2 w3 w.heap.size 33 (.slice a1 m.kinds.length c1) (.slice (some ⟨b, off, none⟩) m.funcs.length cap) := (hb3.block w.heap.size hbl).trans hbx'
              clear hbw hba hb3 hbx' k0 k1 k2 k3 d0 d1 hxd
              cases hq : Pu.isFn f m.kinds.length m.funcs.length with
              | false =>
                have HQ : Hid _ := HF.out hq
                clear hq
                go_wp2
                go_ret
                exact ⟨ret_bool (by rw [H9.out, HQ.out]), hbw3⟩
              | true =>
                have HQ : Hid _ := hq
                clear hq
                go_wp2
                go_roundw
                case rel => exact ⟨k + 1, hlt, by go_num, by rw [HT.out, HA.out, HQ.out]; rfl, hbx3, hbw3, hba3⟩
                case measure => simp [intOf]; omega
          · have HA : Hid _ := ha
            clear ha
            go_wp2
            go_ret
            exact ⟨ret_bool (by rw [H9.out, ← HA.out, List.take_of_length_le (by omega)]), hbw⟩
end Go.Proofs.Ytjamgmbdilkbcaa
