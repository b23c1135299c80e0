/- The walks of wire's writer: isCode. -/
import Derived.Test.YtjamgmbdilkbcaaWrite1
import Derived.Deep.RegionWith
namespace Go.Proofs.Ytjamgmbdilkbcaa
open Go.RowKit

/-- v is a list of the instructions l. -/
def CodeR (w : World) (B : Nat) (v : Value) (l : List (Int × Int)) : Prop :=
  ∃ (ao : Option Addr) (cap b off : Nat), v = .slice ao l.length cap ∧ (0 < l.length → ao = some ⟨b, off, none⟩ ∧ b < B) ∧
    ∀ j, j < l.length → w.cell? ⟨b, off + j * 2, none⟩ = some (.int .i64 (l.getD j (0, 0)).1) ∧ w.cell? ⟨b, off + j * 2 + 1, none⟩ = some (.int .i64 (l.getD j (0, 0)).2)

theorem CodeR.below {w w' : World} {B : Nat} {v : Value} {l : List (Int × Int)} (h : CodeR w B v l) (hb : Below B w w') : CodeR w' B v l := by
  obtain ⟨ao, cap, b, off, hv, h1, h2⟩ := h
  refine ⟨ao, cap, b, off, hv, h1, fun j hj => ?_⟩
  rw [hb.cell (p := ⟨b, off + j * 2, none⟩) (h1 (by omega)).2, hb.cell (p := ⟨b, off + j * 2 + 1, none⟩) (h1 (by omega)).2]
  exact h2 j hj

set_option maxHeartbeats 1000000 in
theorem isCode_any (l : List (Int × Int)) (ki fu pl n : Int) (v : Value) (w : World) (h : CodeR w w.heap.size v l) (hl : l.length ≤ 1000)
    (hki : 0 ≤ ki ∧ ki ≤ 1000) (hfu : 0 ≤ fu ∧ fu ≤ 1000) (hpl : 0 ≤ pl ∧ pl ≤ 1000) (hn : 0 ≤ n ∧ n ≤ 1000) :
    Calls Try.prog 116 #[v, .agg #[.int .i64 ki, .int .i64 fu, .int .i64 pl, .int .i64 n]] w fun e w' => e = .returned (.bool (Pu.isCode l ki fu pl n)) ∧ Below w.heap.size w w' := by
  obtain ⟨ao, cap, b, off, rfl, h1, h2⟩ := h
  have hb0 : Bx (w.alloc (.cells #[.int .i64 ki, .int .i64 fu, .int .i64 pl, .int .i64 n] 186)) w.heap.size ki fu pl n := heap_alloc_new w _
  have hw0 := (Below.refl w.heap.size w).alloc (Nat.le_refl _) (.cells #[.int .i64 ki, .int .i64 fu, .int .i64 pl, .int .i64 n] 186)
  go_enter Try.func116, Try.ntmps116
  go_wp2
  go_loopw [5] (fun i wr => ∃ k : Nat, k ≤ l.length ∧ i = .int .i64 k ∧ (l.take k).all (Pu.isInstr ki fu pl n) = true ∧ Bx wr w.heap.size ki fu pl n ∧ Below w.heap.size w wr) (fun i _ => l.length - (intOf i).toNat)
  case atStart => exact ⟨0, Nat.zero_le _, rfl, by simp, hb0, hw0⟩
  case round =>
    obtain ⟨k, hk, rfl, ha, hbx, hbw⟩ := hrel
    clear hb0 hw0
    by_cases hlt : k < l.length
    · obtain ⟨rfl, hbB⟩ := h1 (by omega)
      have hc0 := (hbw.cell (p := ⟨b, off + k * 2, none⟩) hbB).trans (h2 k hlt).1
      have hc1 := (hbw.cell (p := ⟨b, off + k * 2 + 1, none⟩) hbB).trans (h2 k hlt).2
      clear h1 h2
      have HT : Hid _ := take_all_snoc l (Pu.isInstr ki fu pl n) k (0, 0) hlt
      have HF : Hid _ := all_false_of l (Pu.isInstr ki fu pl n) k (0, 0) hlt
      have HA : Hid _ := ha
      clear ha
      generalize l.getD k (0, 0) = x at *
      obtain ⟨op, arg⟩ := x
      simp only at *
      by_cases hx0 : op < 0
      · go_wp2
        go_ret
        exact ⟨ret_bool (by rw [Pu.isCode, HF.out (by simp [Pu.isInstr]; omega)]), hbw⟩
      · by_cases hx1 : 18 < op
        · go_wp2
          go_ret
          exact ⟨ret_bool (by rw [Pu.isCode, HF.out (by simp [Pu.isInstr]; omega)]), hbw⟩
        · have d0 := hbx.c0
          have d1 := hbx.c1
          have d2 := hbx.c2
          have d3 := hbx.c3
          have hop0 : 0 ≤ op := by omega
          have hop1 : op ≤ 18 := by omega
          clear hx0 hx1
          have hbl := hbx.lt
          go_wp2_with fail
          go_region_with ((go_at_call 124; refine (argRange_any ki fu pl n op _ hki hfu hpl hn hop0 hop1).mono ?_; rintro e w3 ⟨rfl, hg3⟩))
          all_goals
            have hbw3 : Below w.heap.size w w3 := by
              first
                | exact hbw.drew.grown hg3 (Nat.le_of_lt hbl) (by intro k hk; cases hk)
                | exact hbw.grown hg3 (Nat.le_of_lt hbl) (by intro k hk; cases hk)
            have hbx3 : Bx w3 w.heap.size ki fu pl n := (hg3.block _ hbl (by simp)).trans hbx
            have hc1' : w3.cell? ⟨b, off + k * 2 + 1, none⟩ = some (.int .i64 arg) := (World.cell?_of_block (hg3.block b (by simp; omega) (by simp))).trans hc1
            clear hg3 hbw hbx hc0 hc1 d0 d1 d2 d3
            by_cases hy0 : arg < Pu.argLo op
            · go_wp2
              go_ret
              exact ⟨ret_bool (by rw [Pu.isCode, HF.out (by simp [Pu.isInstr]; omega)]), hbw3⟩
            · by_cases hy1 : Pu.argHi ki fu pl n op < arg
              · go_wp2
                go_ret
                exact ⟨ret_bool (by rw [Pu.isCode, HF.out (by simp [Pu.isInstr]; omega)]), hbw3⟩
              · go_wp2
                go_roundw
                case rel => exact ⟨k + 1, hlt, by go_num, by rw [HT.out, HA.out]; simp [Pu.isInstr]; omega, hbx3, hbw3⟩
                case measure => simp [intOf]; omega
    · have HA : Hid _ := ha
      clear ha
      go_wp2
      go_ret
      exact ⟨ret_bool (by rw [Pu.isCode, ← HA.out, List.take_of_length_le (by omega)]), hbw⟩
end Go.Proofs.Ytjamgmbdilkbcaa
