/- all, marked, num. -/
import Derived.Test.YtjamgmbdilkbcaaHeld5
namespace Go.Proofs.Ytjamgmbdilkbcaa
open Go.RowKit

set_option maxHeartbeats 400000 in
theorem all_any (n : Nat) (x : Int) (v : Value) (B : Nat) (w : World) (h : IntsR w B v (List.replicate n x)) (hl : n ≤ maxLen) :
    Calls Try.prog 37 #[v, .int .i64 x] w fun e w' => e = .returned (.bool true) ∧ Below B w w' ∧ w'.heap = w.heap := by
  obtain ⟨ao, cap, b, off, rfl, h1, h2⟩ := h
  rw [List.length_replicate] at h1 h2
  have H1 : Hid _ := h1
  have H2 : Hid _ := h2
  clear h1 h2
  unfold maxLen at hl
  rw [List.length_replicate]
  go_enter Try.func37, Try.ntmps37
  go_wp2
  go_loopw [5] (fun i wr => ∃ k : Nat, k ≤ n ∧ i = .int .i64 k ∧ Below B w wr ∧ wr.heap = w.heap) (fun i _ => n - (intOf i).toNat)
  case atStart => exact ⟨0, Nat.zero_le _, rfl, Below.refl _ _, rfl⟩
  case round =>
    obtain ⟨k, hk, rfl, hb, hh⟩ := hrel
    have HH : Hid _ := hh
    clear hh
    by_cases hlt : k < n
    · obtain ⟨rfl, hbB⟩ := H1.out (by omega)
      have c1 := (hb.cell (p := ⟨b, off + k, none⟩) hbB).trans (H2.out k hlt)
      rw [show (List.replicate n x).getD k 0 = x from by simp [List.getD_eq_getElem?_getD, hlt]] at c1
      go_wp2
      go_roundw
      case rel => exact ⟨k + 1, hlt, by go_num, hb, HH.out⟩
      case measure => simp [intOf]; omega
    · go_wp2
      go_ret
      exact ⟨rfl, hb, HH.out⟩

set_option maxHeartbeats 400000 in
theorem marked_any (S : Nat → Prop) (f : FV) (x : Int) (w : World) (h : MarkedF w S f x) :
    Calls Try.prog 39 #[.agg #[f.p, f.r, f.l, f.c], .int .i64 x] w fun e w' => e = .returned (.bool true) ∧ Below w.heap.size w w' := by
  obtain ⟨q, c, rfl, _, hq⟩ := h
  have hb := (Below.refl w.heap.size w).alloc (Nat.le_refl _) (.cells #[.slice (some ⟨q, 0, none⟩) 1 c, .slice none 0 0, .slice none 0 0, .slice none 0 0] 86)
  have hql := (Array.getElem?_eq_some_iff.1 hq).1
  have c0 : w.cell? ⟨q, 0, none⟩ = some (.int .i64 x) := by simp [World.cell?, hq]
  have c1 := (hb.cell (p := ⟨q, 0, none⟩) hql).trans c0
  clear hq
  simp only
  go_enter Try.func39, Try.ntmps39
  go_wp2
  go_ret
  exact ⟨rfl, hb⟩

theorem num_any (x : Int) (w : World) :
    Calls Try.prog 36 #[.int .i64 x] w fun e w' => e = .returned (.int .i64 x) ∧ w' = w := by
  go_enter Try.func36, Try.ntmps36
  go_wp2
  go_ret
  exact ⟨rfl, rfl⟩
end Go.Proofs.Ytjamgmbdilkbcaa
