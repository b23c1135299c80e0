/- The walks of wire's writer: isList. -/
import Derived.Test.YtjamgmbdilkbcaaRead7
import Derived.Test.YtjamgmbdilkbcaaPure2
namespace Go.Proofs.Ytjamgmbdilkbcaa
open Go.RowKit

/-- v is a list of the numbers l, in memory below block B. -/
def IntsR (w : World) (B : Nat) (v : Value) (l : List Int) : Prop :=
  ∃ (ao : Option Addr) (cap b off : Nat), v = .slice ao l.length cap ∧ (0 < l.length → ao = some ⟨b, off, none⟩ ∧ b < B) ∧ ∀ j, j < l.length → w.cell? ⟨b, off + j, none⟩ = some (.int .i64 (l.getD j 0))

theorem IntsR.below {w w' : World} {B : Nat} {v : Value} {l : List Int} (h : IntsR w B v l) (hb : Below B w w') : IntsR w' B v l := by
  obtain ⟨ao, cap, b, off, hv, h1, h2⟩ := h
  refine ⟨ao, cap, b, off, hv, h1, fun j hj => ?_⟩
  rw [hb.cell (p := ⟨b, off + j, none⟩) (h1 (by omega)).2]
  exact h2 j hj

theorem ret_bool {a b : Bool} (h : b = a) : Ending.returned (.bool a) = .returned (.bool b) := by rw [h]

theorem take_all_snoc {α : Type} (l : List α) (f : α → Bool) (k : Nat) (d : α) (hk : k < l.length) : (l.take (k + 1)).all f = ((l.take k).all f && f (l.getD k d)) := by
  rw [List.take_succ_eq_append_getElem hk, List.all_append]
  simp [List.getD_eq_getElem?_getD, hk]

theorem all_false_of {α : Type} (l : List α) (f : α → Bool) (k : Nat) (d : α) (hk : k < l.length) (h : f (l.getD k d) = false) : l.all f = false := by
  rw [List.all_eq_false]
  refine ⟨l[k], List.getElem_mem hk, ?_⟩
  simp [List.getD_eq_getElem?_getD, hk] at h
  simp [h]

set_option maxHeartbeats 400000 in
theorem isList_any (l : List Int) (most hi : Int) (v : Value) (B : Nat) (w : World) (h : IntsR w B v l) (hl : l.length ≤ maxLen) :
    Calls Try.prog 99 #[v, .int .i64 most, .int .i64 hi] w fun e w' => e = .returned (.bool (Pu.isList l most hi)) ∧ w' = w := by
  obtain ⟨ao, cap, b, off, rfl, h1, h2⟩ := h
  unfold maxLen at hl
  by_cases hm : most < l.length
  · have e1 : Pu.isList l most hi = false := by simp [Pu.isList]; omega
    rw [e1]
    clear e1 h1 h2
    go_enter Try.func99, Try.ntmps99
    go_wp2
    go_ret
    exact ⟨rfl, rfl⟩
  · have e1 : Hid (Pu.isList l most hi = l.all fun x => decide (0 ≤ x) && decide (x ≤ hi)) := by
      show Pu.isList l most hi = _
      unfold Pu.isList
      rw [show decide ((l.length : Int) ≤ most) = true from by simp; omega]
      simp
    go_enter Try.func99, Try.ntmps99
    go_wp2
    go_loop [7] (fun i => ∃ k : Nat, k ≤ l.length ∧ i = .int .i64 k ∧ (l.take k).all (fun x => decide (0 ≤ x) && decide (x ≤ hi)) = true) (fun i => l.length - (intOf i).toNat)
    case atStart => exact ⟨0, Nat.zero_le _, rfl, by simp⟩
    case round =>
      obtain ⟨k, hk, rfl, ha⟩ := hrel
      by_cases hlt : k < l.length
      · obtain ⟨rfl, hbB⟩ := h1 (by omega)
        have hc := h2 k hlt
        clear h1 h2
        have HT : Hid _ := take_all_snoc l (fun x => decide (0 ≤ x) && decide (x ≤ hi)) k 0 hlt
        have HF : Hid _ := all_false_of l (fun x => decide (0 ≤ x) && decide (x ≤ hi)) k 0 hlt
        have HA : Hid _ := ha
        clear ha
        generalize l.getD k 0 = x at *
        by_cases hx0 : x < 0
        · go_wp2
          go_ret
          exact ⟨ret_bool (by rw [e1.out, HF.out (by simp; omega)]), rfl⟩
        · by_cases hx1 : hi < x
          · go_wp2
            go_ret
            exact ⟨ret_bool (by rw [e1.out, HF.out (by simp; omega)]), rfl⟩
          · go_wp2
            go_round
            case rel => exact ⟨k + 1, hlt, by go_num, by rw [HT.out, HA.out]; simp; omega⟩
            case measure => simp [intOf]; omega
      · have HA : Hid _ := ha
        clear ha
        go_wp2
        go_ret
        exact ⟨ret_bool (by rw [e1.out, ← HA.out, List.take_of_length_le (by omega)]), rfl⟩
end Go.Proofs.Ytjamgmbdilkbcaa
