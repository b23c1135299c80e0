/- copy into a row that the call itself made, whatever the size of an element. -/
import Derived.Test.YtjamgmbdilkbcaaHeld7
import Derived.Laws.CopyOwn
import Derived.Laws.MakeOwn
namespace Go.Proofs.Ytjamgmbdilkbcaa
open Go.RowKit

section
variable {P : Program}
theorem run_copy_rows (w : World) (dT sT ty elem : TypeId) (g dLen dCap size : Nat) (a : Addr) (sLen sCap : Nat) (cur : Array Value) (t : TypeId) (cs : List Value)
    (hu : P.underlying dT = some (.slice elem)) (hs : (P.info? elem).map (·.size) = some size)
    (hg : w.heap[g]? = some (.cells cur t (0, 0))) (hn : cs.length = Nat.min sLen dLen * size)
    (hsrc : ∀ j v, cs[j]? = some v → w.cell? (a.add j) = some v) (hfit : cs.length ≤ cur.size) (h1 : ∀ v ∈ cs, v.oneCell' = true) :
    (Builtin.copy_ #[dT, sT] ty #[.slice (some ⟨g, 0, none⟩) dLen dCap, .slice (some a) sLen sCap]).run P w =
      .ok (goInt (Nat.min sLen dLen)) (w.setRow g (cs ++ cur.toList.drop cs.length).toArray) := by
  have hl := run_loadCells_list (P := P) w a cs hsrc
  have hst := run_storeCells_at P g 0 t cs 0 cur w hg (by simpa using hfit) h1
  cases hq : P.info? elem with
  | none => simp [hq] at hs
  | some i =>
    have hi : i.size = size := by simpa [hq] using hs
    simp at hst
    simp [Builtin.copy_, run_underlying hu, Builtin.lenOf, Builtin.firstCells, sizeOf, typeInfo, hq, hi, ← hn, hl, hst]

theorem run_copy_zero (w : World) (dT sT ty elem : TypeId) (d a : Option Addr) (dLen dCap sLen sCap size : Nat) (hu : P.underlying dT = some (.slice elem)) (hs : (P.info? elem).map (·.size) = some size) (hn : Nat.min sLen dLen = 0) :
    (Builtin.copy_ #[dT, sT] ty #[.slice d dLen dCap, .slice a sLen sCap]).run P w = .ok (goInt 0) w := by
  cases hq : P.info? elem with
  | none => simp [hq] at hs
  | some i =>
    cases d <;> cases a <;> simp [Builtin.copy_, run_underlying hu, Builtin.lenOf, Builtin.firstCells, sizeOf, typeInfo, hq, hn, loadCells, loadCellsFrom, storeCells]

/-- copy to the front of a row that was just made, two places longer. -/
theorem copy_made (W1 : World) (dT ty elem : TypeId) (g n size cap : Nat) (ao : Option Addr) (cur cs : List Value) (hu : P.underlying dT = some (.slice elem)) (hs : (P.info? elem).map (·.size) = some size)
    (hg : W1.heap[g]? = some (.cells cur.toArray elem (0, 0))) (hcl : cur.length = (n + 2) * size) (hn : cs.length = n * size)
    (hsrc : 0 < n → ∃ ad, ao = some ad ∧ ∀ j v, cs[j]? = some v → W1.cell? (ad.add j) = some v) (h1 : ∀ v ∈ cs, v.oneCell' = true) :
    ∃ W2, (Builtin.copy_ #[dT, dT] ty #[.slice (some ⟨g, 0, none⟩) (n + 2) (n + 2), .slice ao n cap]).run P W1 = .ok (goInt n) W2 ∧ W2.heap[g]? = some (.cells (cs ++ cur.drop (n * size)).toArray elem (0, 0)) ∧ W1.grownBy W2 (some g) := by
  by_cases h0 : n = 0
  · subst h0
    have : cs = [] := List.eq_nil_of_length_eq_zero (by simpa using hn)
    subst this
    exact ⟨W1, run_copy_zero W1 dT dT ty elem _ _ _ _ _ _ size hu hs (by simp), by simpa using hg, ⟨rfl, rfl, rfl, Nat.le_refl _, fun _ _ _ => rfl⟩⟩
  · obtain ⟨ad, rfl, hc⟩ := hsrc (by omega)
    have hmin : Nat.min n (n + 2) = n := Nat.min_eq_left (by omega)
    have hle : n * size ≤ (n + 2) * size := Nat.mul_le_mul_right _ (by omega)
    refine ⟨W1.setRow g (cs ++ cur.drop (n * size)).toArray, ?_, setRow_heap W1 g _ _ elem _ hg, ⟨rfl, rfl, rfl, by simp [World.setRow], fun k hk hr => setRow_other W1 g k _ (by intro e; subst e; exact hr rfl)⟩⟩
    have := run_copy_rows (P := P) W1 dT dT ty elem g (n + 2) (n + 2) size ad n cap cur.toArray elem cs hu hs hg (by rw [hmin]; exact hn) hc (by simp; omega) h1
    rw [hmin, hn] at this
    simpa using this
end
end Go.Proofs.Ytjamgmbdilkbcaa
