/- Held.decode. -/
import Derived.Test.YtjamgmbdilkbcaaHeld7
import Derived.Test.YtjamgmbdilkbcaaRef4
namespace Go.Proofs.Ytjamgmbdilkbcaa
open Go.RowKit

theorem dec_is {b : ByteArray} (h : (Pu.decode b).2.1 = 0) : Pu.isMd (Pu.decode b).1 = true := by
  have := Pu.canon h
  unfold Pu.encode at this
  cases hm : Pu.isMd (Pu.decode b).1 with
  | true => rfl
  | false => rw [hm] at this; simp at this

theorem is_small {m : Pu.Md} (h : Pu.isMd m = true) : Small m ∧ m.funcs.length ≤ 8 := by
  simp only [Pu.isMd, Bool.and_eq_true, decide_eq_true_eq, List.all_eq_true] at h
  obtain ⟨h1, h2, h3, h4⟩ := h
  simp only [Pu.isList, Bool.and_eq_true, decide_eq_true_eq] at h1
  refine ⟨⟨by omega, by omega, fun f hf => ?_⟩, h3⟩
  have hh := h4 f hf
  simp only [Pu.isFn, Pu.isList, Bool.and_eq_true, decide_eq_true_eq] at hh
  omega

theorem Hd.le {w : World} {B ph : Nat} {S : Nat → Prop} {K K' : Nat} (h : Hd w B ph S K) (hk : K ≤ K') : Hd w B ph S K' := by
  obtain ⟨N, vi, vc, vf, ei, ec, ef, h, g, k1, k2, k3⟩ := h
  exact ⟨N, vi, vc, vf, ei, ec, ef, h, g, by omega, by omega, by omega⟩

theorem md_nil (w : World) (B : Nat) : MdAt w B ⟨[], []⟩ (.slice none 0 0) (.slice none 0 0) [] :=
  ⟨World.ownsRow_nil w B _ _, World.ownsRow_nil w B _ _, trivial, by simp [bl, fc, Value.ownBlock]⟩

/-- what Decode hands out, told once. -/
theorem DecOut.one {w w' : World} {b : ByteArray} {e : Ending} (h : DecOut w w' b e) : ∃ (k v : Value) (xs : List FV), e = .returned (.tuple #[.agg #[k, v], .int .i64 (Pu.decode b).2.1, .int .i64 (Pu.decode b).2.2]) ∧ MdAt w' w.heap.size (Pu.decode b).1 k v xs ∧ Small (Pu.decode b).1 ∧ (Pu.decode b).1.funcs.length ≤ 8 := by
  rcases h with ⟨k, v, xs, he, hm, hd⟩ | ⟨he, hd, _⟩
  · have := is_small (dec_is (b := b) (by rw [hd]))
    exact ⟨k, v, xs, by rw [he, hd], hm, this⟩
  · refine ⟨_, _, [], he, by rw [hd]; exact md_nil _ _, ?_⟩
    rw [hd]
    simp [Small]

theorem RDecOut.one {w' : World} {b : ByteArray} {e : Ending} (h : RDecOut w' b e) : ∃ (k v : Value), e = .returned (.tuple #[.agg #[k, v], .int .i64 (Pu.decode b).2.1, .int .i64 (Pu.decode b).2.2]) ∧ MdR w' w'.heap.size k v (Pu.decode b).1 := by
  rcases h with ⟨k, v, he, hm, hd⟩ | ⟨he, hd, _⟩
  · exact ⟨k, v, by rw [he, hd], hm⟩
  · exact ⟨_, _, he, by rw [hd]; exact mdAt_reads (md_nil w' 0)⟩

theorem MdAt.below {w w' : World} {B : Nat} {m : Pu.Md} {k v : Value} {xs : List FV} (h : MdAt w B m k v xs) (hb : Below w.heap.size w w') : MdAt w' B m k v xs :=
  h.none ⟨hb.os, hb.tape, hb.output, hb.size, fun k hk _ => hb.block k hk⟩

theorem MdAt.ge {w : World} {B : Nat} {m : Pu.Md} {k v : Value} {xs : List FV} (h : MdAt w B m k v xs) : ∀ j ∈ bl (k :: v :: fc xs), B ≤ j := by
  intro j hj
  rw [bl_cons, bl_cons, List.mem_append, List.mem_append, ← rows_bl _ _ h.hf.len] at hj
  rcases hj with hj | hj | hj
  · exact (h.hk.lt j (by simpa using hj)).1
  · exact (h.hv.lt j (by simpa using hj)).1
  · obtain ⟨r, hr, hrj⟩ := List.mem_flatMap.1 hj
    exact ((rows_own h.hf r hr).1.lt j (by simpa using hrj)).1

set_option maxRecDepth 100000 in
set_option maxHeartbeats 2000000 in
theorem hdecode_any (b : ByteArray) (B ph K : Nat) (S : Nat → Prop) (w : World) (hd : Hd w B ph S K) (hs : b.size ≤ maxLen) (hK : K ≤ 900000000) :
    Calls Try.prog 11 #[.pointer (some ⟨ph, 0, none⟩), .string b] w fun e w' => e = .returned (.bool true) ∧ (∃ S', Hd w' B ph S' (K + 136)) ∧ Below B w w' := by
  have hBp := hd.lt
  go_enter Try.func11, Try.ntmps11
  go_wp2_with fail
  refine (decode_any b _ hs).mono ?_
  rintro e w1 ⟨ho, hb1⟩
  obtain ⟨k, v, xs, rfl, hm, hsm, hf8⟩ := ho.one
  obtain ⟨a1, c1, rfl⟩ := owns_shape hm.hk
  obtain ⟨a2, c2, rfl⟩ := owns_shape hm.hv
  clear ho
  obtain ⟨m, hm0⟩ : ∃ m, m = (Pu.decode b).1 := ⟨_, rfl⟩
  obtain ⟨ev, hev⟩ : ∃ ev, ev = (Pu.decode b).2.1 := ⟨_, rfl⟩
  obtain ⟨av, hav⟩ : ∃ av, av = (Pu.decode b).2.2 := ⟨_, rfl⟩
  rw [← hm0] at hm hsm hf8 ⊢
  rw [← hev, ← hav]
  have HE : Hid _ := And.intro hm0 (And.intro hev hav)
  clear hm0 hev hav
  have hba := (Below.refl w1.heap.size w1).alloc (Nat.le_refl _) (.cells #[.slice a1 m.kinds.length c1, .slice a2 m.funcs.length c2] 33)
  have bxa : F2 (w1.alloc (.cells #[.slice a1 m.kinds.length c1, .slice a2 m.funcs.length c2] 33)) w1.heap.size 33 (.slice a1 m.kinds.length c1) (.slice a2 m.funcs.length c2) := heap_alloc_new w1 _
  have hma := hm.below hba
  have hb2 := hb1.trans (hba.mono hb1.size)
  have z1 := hb1.size
  clear hm hba hb1
  go_wp2_with fail
  refine (rdecode_any b _ hs).mono ?_
  rintro e w3 ⟨ho, hb⟩
  obtain ⟨k', v', rfl, hr⟩ := ho.one
  rw [← HE.out.1] at hr
  rw [← HE.out.2.1, ← HE.out.2.2]
  obtain ⟨a1', c1', rfl⟩ := hr.k.shape
  obtain ⟨a2', c2', rfl⟩ : ∃ a c, v' = .slice a m.funcs.length c := by
    obtain ⟨ao, cap, _, _, hv, _⟩ := hr.v
    exact ⟨ao, cap, hv⟩
  have z3 := hb.size
  have bx3 : F2 w3 w1.heap.size 33 (.slice a1 m.kinds.length c1) (.slice a2 m.funcs.length c2) := (hb.block w1.heap.size (by simp)).trans bxa
  have hm3 := hma.below hb
  have hb3 := hb2.trans (hb.mono (by simp only [World.size_alloc]; omega))
  clear ho hma hb bxa hb2 HE
  have hba := (Below.refl w3.heap.size w3).alloc (Nat.le_refl _) (.cells #[.slice a1' m.kinds.length c1', .slice a2' m.funcs.length c2'] 33)
  have bx4 : F2 (w3.alloc (.cells #[.slice a1' m.kinds.length c1', .slice a2' m.funcs.length c2'] 33)) w1.heap.size 33 (.slice a1 m.kinds.length c1) (.slice a2 m.funcs.length c2) := (hba.block w1.heap.size bx3.lt).trans bx3
  have hm4 := hm3.below hba
  have hr4 := (hr.below hba).wide (B' := (w3.alloc (.cells #[.slice a1' m.kinds.length c1', .slice a2' m.funcs.length c2'] 33)).heap.size) (by simp)
  have hb4 := hb3.trans (hba.mono (B' := w.heap.size) (by simp only [World.size_alloc] at z3; omega))
  have hq4 := mdAt_reads hm4
  have q0 := bx4.c0
  have q1 := bx4.c1
  clear hm3 bx3 hb3 hr hba
  go_wp2_with fail
  refine (sameModule_same m _ _ _ _ _ hq4 hr4).mono ?_
  rintro e w5 ⟨rfl, hb⟩
  have z5 := hb.size
  simp only [World.size_alloc] at z3 z5
  have bx5 : F2 w5 w1.heap.size 33 (.slice a1 m.kinds.length c1) (.slice a2 m.funcs.length c2) := (hb.block w1.heap.size (by simp only [World.size_alloc]; omega)).trans bx4
  have hm5 := hm4.below hb
  have hb5 := hb4.trans (hb.mono (by simp only [World.size_alloc]; omega))
  have hd5 := (hd.more (S' := fun k => k < w.heap.size) (fun k h _ => h)).below hb5
  have hge := hm5.ge
  clear hd q0 q1 bx4 hm4 hr4 hq4 hb hb4
  have q0 := bx5.c0
  have q1 := bx5.c1
  go_wp2_with fail
  clear q0 q1
  refine (hmodule_any B ph K _ m _ _ xs w5 hd5 (hm5.base (by omega)) hsm (fun j hj h => by have := hge j hj; omega) (by omega)).mono ?_
  rintro e w6 ⟨rfl, ⟨S6, hd6⟩, hb6⟩
  have hb7 := (hb5.mono (B' := B) (by omega)).trans hb6
  have hd7 : ∃ S', Hd w6 B ph S' (K + 136) := ⟨S6, hd6.le (by omega)⟩
  have HD7 : Hid _ := hd7
  clear hd6 hb6 hb5 hd5 hm5 hge bx5 hd7 hsm
  go_wp2_with fail
  refine (num_any ev _).mono ?_
  rintro e w7 ⟨rfl, rfl⟩
  go_wp2
  go_ret
  exact ⟨rfl, HD7.out, hb7⟩
end Go.Proofs.Ytjamgmbdilkbcaa
