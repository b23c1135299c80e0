/- Decoded. -/
import Derived.Test.YtjamgmbdilkbcaaDec1
namespace Go.Proofs.Ytjamgmbdilkbcaa
open Go.RowKit

theorem hd_zero (w : World) : Hd (w.alloc (.cells #[.int .i64 0, .slice none 0 0, .slice none 0 0, .slice none 0 0] 27)) w.heap.size w.heap.size (fun _ => False) 0 :=
  ⟨0, .slice none 0 0, .slice none 0 0, .slice none 0 0, [], [], [], ⟨heap_alloc_new w _, World.ownsRow_nil _ _ _ _, World.ownsRow_nil _ _ _ _, World.ownsRow_nil _ _ _ _, Nat.le_refl _⟩, ⟨by simp, by simp, by simp⟩, by simp, by simp, by simp⟩

set_option maxHeartbeats 1000000 in
theorem decoded_walk (b : ByteArray) (w : World) (hs : b.size ≤ maxLen) :
    Calls Try.prog 3 #[.string b] w fun e w' => e = .returned (.bool true) ∧ Below w.heap.size w w' := by
  have hd := hd_zero w
  have hb := (Below.refl w.heap.size w).alloc (Nat.le_refl _) (.cells #[.int .i64 0, .slice none 0 0, .slice none 0 0, .slice none 0 0] 27)
  go_enter Try.func3, Try.ntmps3
  go_wp2_with fail
  refine (hdecode_any b _ _ _ _ _ hd hs (by omega)).mono ?_
  rintro e w1 ⟨rfl, ⟨S1, hd1⟩, hb1⟩
  have hb2 := hb.trans hb1
  clear hd hb hb1
  go_wp2_with fail
  refine (hdecode_any b _ _ _ _ _ hd1 hs (by omega)).mono ?_
  rintro e w2 ⟨rfl, ⟨S2, hd2⟩, hb1⟩
  have hb3 := hb2.trans hb1
  clear hd1 hb2 hb1
  go_wp2_with fail
  refine (dry_any _ _ _ _ _ hd2 (by omega)).mono ?_
  rintro e w3 ⟨rfl, hb1⟩
  have hb4 := hb3.trans (hb1.mono hb3.size)
  clear hd2 hb3 hb1
  go_wp2
  go_ret
  exact ⟨rfl, hb4⟩
end Go.Proofs.Ytjamgmbdilkbcaa
