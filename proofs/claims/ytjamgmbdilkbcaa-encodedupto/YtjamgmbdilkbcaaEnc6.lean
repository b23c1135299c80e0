/- Encoded. -/
import Derived.Test.YtjamgmbdilkbcaaEnc5
namespace Go.Proofs.Ytjamgmbdilkbcaa
open Go.RowKit

set_option maxRecDepth 100000 in
set_option maxHeartbeats 1000000 in
theorem encoded_walk (m : Pu.Md) (kv vv : Value) (w : World) (hm : MdR w w.heap.size kv vv m) (hfair : Fair m) :
    Calls Try.prog 4 #[.agg #[kv, vv]] w fun e w' => e = .returned (.bool true) ∧ Below w.heap.size w w' := by
  obtain ⟨a1, c1, rfl⟩ := hm.k.shape
  obtain ⟨a2, c2, rfl⟩ := hm.v.shape
  obtain ⟨W0, hW0⟩ : ∃ W0, W0 = w.alloc (.cells #[.slice a1 m.kinds.length c1, .slice a2 m.funcs.length c2] 33) := ⟨_, rfl⟩
  have hbw : Below w.heap.size w W0 := by rw [hW0]; exact (Below.refl w.heap.size w).alloc (Nat.le_refl _) _
  have bx0 : F2 W0 w.heap.size 33 (.slice a1 m.kinds.length c1) (.slice a2 m.funcs.length c2) := by rw [hW0]; exact heap_alloc_new w _
  have hz0 : W0.heap.size = w.heap.size + 1 := by rw [hW0]; simp
  obtain ⟨W1, hW1⟩ : ∃ W1, W1 = W0.alloc (.cells #[.int .i64 0, .slice none 0 0, .slice none 0 0, .slice none 0 0] 27) := ⟨_, rfl⟩
  have hd : Hd W1 W0.heap.size W0.heap.size (fun _ => False) 0 := by rw [hW1]; exact hd_zero W0
  have hb : Below W0.heap.size W0 W1 := by rw [hW1]; exact (Below.refl W0.heap.size W0).alloc (Nat.le_refl _) _
  have hm0 := (hm.below hbw).wide hbw.size
  have hm1 := hm0.below hb
  have b1 : F2 W1 w.heap.size 33 _ _ := (hb.block _ bx0.lt).trans bx0
  have HN : Hid (m.funcs.length ≤ 1048576) := hfair.2.1
  have HF : Hid _ := hfair
  have HW : Hid (W1 = (w.alloc (.cells #[.slice a1 m.kinds.length c1, .slice a2 m.funcs.length c2] 33)).alloc (.cells #[.int .i64 0, .slice none 0 0, .slice none 0 0, .slice none 0 0] 27)) := by show _ = _; rw [hW1, hW0]
  rw [hz0] at hd
  have HZ : Hid _ := hz0
  clear hfair hW0 hW1 hz0
  go_enter Try.func4, Try.ntmps4
  go_wp2_with fail
  rw [← HW.out]
  clear HW
  refine (hencode_any m _ _ _ _ _ _ _ hd (by rw [← HZ.out]; exact hm1) HF.out (by omega)).mono ?_
  rintro e w1 ⟨rfl, ⟨S1, hd1⟩, hb1⟩
  rw [← HZ.out] at hb1
  have hb2 := hb.trans hb1
  have hm2 := hm0.below hb2
  have bx2 : F2 w1 w.heap.size 33 _ _ := (hb2.block _ bx0.lt).trans bx0
  clear hd hb hb1 hm1 b1
  have d0 := bx2.c0
  have d1 := bx2.c1
  go_wp2_with fail
  clear d0 d1
  refine (hencode_any m _ _ _ _ _ _ _ hd1 (by rw [← HZ.out]; exact hm2) HF.out (by have := HN.out; omega)).mono ?_
  rintro e w2 ⟨rfl, ⟨S2, hd2⟩, hb1⟩
  rw [← HZ.out] at hb1
  have hb3 := hb2.trans hb1
  clear hd1 hb2 hb1 hm2 hm
  go_wp2_with fail
  refine (dry_any _ _ _ _ _ hd2 (by have := HN.out; omega)).mono ?_
  rintro e w3 ⟨rfl, hb1⟩
  have hb4 := hbw.trans ((hb3.trans (hb1.mono hb3.size)).mono hbw.size)
  clear hd2 hb3 hb1
  go_wp2
  go_ret
  exact ⟨rfl, hb4⟩
end Go.Proofs.Ytjamgmbdilkbcaa
