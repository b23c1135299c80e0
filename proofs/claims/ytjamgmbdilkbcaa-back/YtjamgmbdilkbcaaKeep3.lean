/- Back, walked. -/
import Derived.Test.YtjamgmbdilkbcaaKeep2
namespace Go.Proofs.Ytjamgmbdilkbcaa
open Go.RowKit

theorem bool_and_true (a b : Bool) (ha : a = true) (hb : b = true) : (a && b) = true := by rw [ha, hb]; rfl

set_option maxRecDepth 100000 in
set_option maxHeartbeats 2000000 in
theorem back_walk (m : Pu.Md) (k v : Value) (w : World) (h : MdR w w.heap.size k v m) :
    Calls Try.prog 6 #[.agg #[k, v]] w fun e w' => e = .returned (.bool true) ∧ Below w.heap.size w w' := by
  obtain ⟨a1, c1, rfl⟩ := h.k.shape
  obtain ⟨a2, c2, rfl⟩ := h.v.shape
  have hk0 : F2 (w.alloc (.cells #[.slice a1 m.kinds.length c1, .slice a2 m.funcs.length c2] 33)) w.heap.size 33 (.slice a1 m.kinds.length c1) (.slice a2 m.funcs.length c2) := heap_alloc_new w _
  have hb0 := (Below.refl w.heap.size w).alloc (Nat.le_refl _) (.cells #[.slice a1 m.kinds.length c1, .slice a2 m.funcs.length c2] 33)
  have HE := Pu.encode_err m
  have HB : Hid ((Pu.encode m).2 = 0 → Pu.decode ⟨(Pu.encode m).1.toArray⟩ = (m, 0, 0) ∧ (Pu.encode m).1.length ≤ 1500) := Pu.back
  have HE1 : Hid _ := HE.1
  have HE2 : Hid _ := HE.2
  clear HE
  go_enter Try.func6, Try.ntmps6
  go_wp2_with fail
  refine (awake_any _).mono ?_
  rintro e w1 ⟨rfl, hb⟩
  have hb1 := hb0.trans (hb.mono (by simp))
  have hk1 : F2 w1 w.heap.size 33 (.slice a1 m.kinds.length c1) (.slice a2 m.funcs.length c2) := (hb.block w.heap.size (by simp)).trans hk0
  have hm1 := (h.below hb1).wide (B' := w1.heap.size) hb1.size
  have hz1 := hk1.lt
  clear hb hb0 hk0
  have d0 := hk1.c0
  have d1 := hk1.c1
  go_wp2_with fail
  clear d0 d1
  refine (encode_any m _ _ _ hm1).mono ?_
  generalize hq : Pu.encode m = q at *
  obtain ⟨l, er⟩ := q
  simp only at *
  clear hq
  rintro e w2 ⟨rfl, hb⟩
  have hb2 := hb1.trans (hb.mono hb1.size)
  have hk2 : F2 w2 w.heap.size 33 (.slice a1 m.kinds.length c1) (.slice a2 m.funcs.length c2) := (hb.block w.heap.size hz1).trans hk1
  have hz2 := hk2.lt
  clear hb hb1 hk1 hm1
  by_cases her : er = 0
  · subst her
    have hbk := HB.out rfl
    have hle := hbk.2
    have HD : Hid _ := hbk.1
    clear hbk HB HE1 HE2
    have hss : (ByteArray.mk l.toArray).size = l.length := by simp [ByteArray.size]
    have hs1 : (ByteArray.mk l.toArray).size ≤ 1500 := by rw [hss]; exact hle
    generalize ByteArray.mk l.toArray = s at *
    clear hss hle
    have d0 := hk2.c0
    have d1 := hk2.c1
    go_wp2_with fail
    clear d0 d1
    refine (decode_any s _ (by unfold maxLen; omega)).mono ?_
    rintro e w3 ⟨ho, hb⟩
    rcases ho with ⟨k, v, xs, rfl, hm, hd⟩ | ⟨rfl, hd1, hd2⟩
    · rw [HD.out] at hm hd
      simp only at hm
      have hr := mdAt_reads hm
      obtain ⟨a3, c3, rfl⟩ := owns_shape hm.hk
      obtain ⟨a4, c4, rfl⟩ := owns_shape hm.hv
      have hb3 := hb2.trans (hb.mono hb2.size)
      have hk3 : F2 w3 w.heap.size 33 (.slice a1 m.kinds.length c1) (.slice a2 m.funcs.length c2) := (hb.block w.heap.size hz2).trans hk2
      have hz3 := hk3.lt
      have hm3 := h.below hb3
      clear hm hd hb hb2 hk2 h HD
      have hb4 := hb3.alloc (Nat.le_of_lt hz3) (.cells #[.slice a3 m.kinds.length c3, .slice a4 m.funcs.length c4] 33)
      have hm4 := (hm3.below ((Below.refl w.heap.size w3).alloc (Nat.le_of_lt hz3) (.cells #[.slice a3 m.kinds.length c3, .slice a4 m.funcs.length c4] 33))).wide (B' := (w3.alloc (.cells #[.slice a3 m.kinds.length c3, .slice a4 m.funcs.length c4] 33)).heap.size) (by simp only [World.size_alloc]; omega)
      have hr4 := (hr.below ((Below.refl w3.heap.size w3).alloc (Nat.le_refl _) (.cells #[.slice a3 m.kinds.length c3, .slice a4 m.funcs.length c4] 33))).wide (B' := (w3.alloc (.cells #[.slice a3 m.kinds.length c3, .slice a4 m.funcs.length c4] 33)).heap.size) (by simp only [World.size_alloc]; omega)
      have d0 := hk3.c0
      have d1 := hk3.c1
      clear hm3 hr hb3
      go_wp2_with fail
      clear d0 d1
      refine (same_same m _ _ _ _ _ hm4 hr4).mono ?_
      rintro e w5 ⟨rfl, hb⟩
      have hb5 := hb4.trans (hb.mono (by simp only [World.size_alloc]; omega))
      clear hb hm4 hr4 hb4 hk3
      have hs2 : ((s.size : Int) ≤ 1500) := by omega
      have hs3 : decide ((s.size : Int) ≤ 1500) = true := by simpa using hs2
      go_wp2
      go_ret
      exact ⟨rfl, hb5⟩
    · exact absurd (by rw [HD.out]) hd2
  · have hle := HE1.out her
    subst hle
    have hne : (er != 0) = true := by simpa using her
    rcases HE2.out with h0 | h0 | h0
    · exact absurd h0 her
    · subst h0
      clear HE1 HE2 HB hne her
      go_wp2
      go_ret
      exact ⟨rfl, hb2⟩
    · subst h0
      clear HE1 HE2 HB hne her
      go_wp2
      go_ret
      exact ⟨rfl, hb2⟩
end Go.Proofs.Ytjamgmbdilkbcaa
