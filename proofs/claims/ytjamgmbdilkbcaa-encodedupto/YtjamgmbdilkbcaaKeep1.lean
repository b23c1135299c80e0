/- A module that was read can be written: the bridge; the bank. -/
import Derived.Test.YtjamgmbdilkbcaaWrite7
import Derived.Test.YtjamgmbdilkbcaaPure3
namespace Go.Proofs.Ytjamgmbdilkbcaa
open Go.RowKit

theorem addr_add (g j : Nat) : (⟨g, 0, none⟩ : Addr).add j = ⟨g, 0 + j, none⟩ := by unfold Addr.add; split <;> simp_all

theorem owns_len {w : World} {B e size n : Nat} {v : Value} {xs : List Value} (h : w.ownsRow B e size v n xs) : n ≤ maxLen := by
  rcases h.2 with ⟨_, rfl⟩ | ⟨g, cap, cur, _, _, _, h1, h2, _⟩
  · exact Nat.zero_le _
  · exact Nat.le_trans h1 h2

theorem owns_ints {w : World} {B : Nat} {v : Value} {l : List Int} (h : w.ownsRow B 3 1 v l.length (l.map (Value.int .i64))) : IntsR w w.heap.size v l := by
  have h' := h
  rcases h.2 with ⟨rfl, h0⟩ | ⟨g, cap, cur, rfl, hB, hg, _⟩
  · have : l = [] := List.eq_nil_of_length_eq_zero h0
    subst this
    exact ⟨none, 0, 0, 0, rfl, fun h => absurd h (by simp), fun j hj => absurd hj (by simp)⟩
  · refine ⟨some ⟨g, 0, none⟩, cap, g, 0, rfl, fun _ => ⟨rfl, (Array.getElem?_eq_some_iff.1 hg).1⟩, fun j hj => ?_⟩
    have := h'.cells (g := g) rfl j (.int .i64 (l.getD j 0)) (by simp [List.getD_eq_getElem?_getD, hj])
    rwa [addr_add] at this

theorem cc_get (l : List (Int × Int)) : ∀ j, j < l.length → (cc l)[j * 2]? = some (.int .i64 (l.getD j (0, 0)).1) ∧ (cc l)[j * 2 + 1]? = some (.int .i64 (l.getD j (0, 0)).2) := by
  induction l with
  | nil => intro j hj; simp at hj
  | cons a l ih =>
    intro j hj
    have e : cc (a :: l) = .int .i64 a.1 :: .int .i64 a.2 :: cc l := by simp [cc]
    rw [e]
    cases j with
    | zero => simp
    | succ j =>
      have := ih j (by simpa using hj)
      rw [show (j + 1) * 2 = j * 2 + 1 + 1 from by omega]
      simpa using this

theorem owns_code {w : World} {B : Nat} {v : Value} {l : List (Int × Int)} (h : w.ownsRow B 80 2 v l.length (cc l)) : CodeR w w.heap.size v l := by
  have h' := h
  rcases h.2 with ⟨rfl, h0⟩ | ⟨g, cap, cur, rfl, hB, hg, _⟩
  · have : l = [] := List.eq_nil_of_length_eq_zero h0
    subst this
    exact ⟨none, 0, 0, 0, rfl, fun h => absurd h (by simp), fun j hj => absurd hj (by simp)⟩
  · refine ⟨some ⟨g, 0, none⟩, cap, g, 0, rfl, fun _ => ⟨rfl, (Array.getElem?_eq_some_iff.1 hg).1⟩, fun j hj => ?_⟩
    have hc := cc_get l j hj
    have h1 := h'.cells (g := g) rfl _ _ hc.1
    have h2 := h'.cells (g := g) rfl _ _ hc.2
    rw [addr_add] at h1 h2
    exact ⟨h1, by simpa [Nat.add_assoc] using h2⟩

theorem FnAt.reads {w : World} {B : Nat} {f : Pu.Fn} {x : FV} (h : FnAt w B f x) : FnR w w.heap.size x f :=
  ⟨owns_ints h.p, owns_ints h.r, owns_ints h.l, owns_code h.c, owns_len h.p, owns_len h.r, owns_len h.l, owns_len h.c⟩

theorem FnsAt.get {w : World} {B : Nat} : ∀ {fs : List Pu.Fn} {xs : List FV}, FnsAt w B fs xs → ∀ j, j < fs.length → ∃ x, (fc xs)[j * 4]? = some x.p ∧ (fc xs)[j * 4 + 1]? = some x.r ∧ (fc xs)[j * 4 + 2]? = some x.l ∧ (fc xs)[j * 4 + 3]? = some x.c ∧ FnAt w B (fs.getD j ⟨[], [], [], []⟩) x
  | [], [], _ => fun j hj => absurd hj (by simp)
  | f :: fs, x :: xs, h => fun j hj => by
    rw [fc_cons]
    cases j with
    | zero => exact ⟨x, by simp [FV.cells], by simp [FV.cells], by simp [FV.cells], by simp [FV.cells], h.1⟩
    | succ j =>
      obtain ⟨y, g0, g1, g2, g3, hy⟩ := FnsAt.get h.2 j (by simpa using hj)
      refine ⟨y, ?_, ?_, ?_, ?_, by simpa using hy⟩
      · rw [show (j + 1) * 4 = j * 4 + 1 + 1 + 1 + 1 from by omega]; simpa [FV.cells] using g0
      · rw [show (j + 1) * 4 + 1 = j * 4 + 1 + 1 + 1 + 1 + 1 from by omega]; simpa [FV.cells] using g1
      · rw [show (j + 1) * 4 + 2 = j * 4 + 2 + 1 + 1 + 1 + 1 from by omega]; simpa [FV.cells] using g2
      · rw [show (j + 1) * 4 + 3 = j * 4 + 3 + 1 + 1 + 1 + 1 from by omega]; simpa [FV.cells] using g3
  | [], _ :: _, h => h.elim
  | _ :: _, [], h => h.elim

theorem mdAt_reads {w : World} {B : Nat} {m : Pu.Md} {k v : Value} {xs : List FV} (h : MdAt w B m k v xs) : MdR w w.heap.size k v m := by
  refine ⟨owns_ints h.hk, ?_, owns_len h.hk, owns_len h.hv⟩
  have hv := h.hv
  rcases hv.2 with ⟨rfl, h0⟩ | ⟨g, cap, cur, rfl, hB, hg, _⟩
  · exact ⟨none, 0, 0, 0, by rw [h0], fun h => absurd h (by omega), fun j hj => absurd hj (by omega)⟩
  · refine ⟨some ⟨g, 0, none⟩, cap, g, 0, rfl, fun _ => ⟨rfl, (Array.getElem?_eq_some_iff.1 hg).1⟩, fun j hj => ?_⟩
    obtain ⟨x, g0, g1, g2, g3, hx⟩ := h.hf.get j hj
    have k0 := hv.cells (g := g) rfl _ _ g0
    have k1 := hv.cells (g := g) rfl _ _ g1
    have k2 := hv.cells (g := g) rfl _ _ g2
    have k3 := hv.cells (g := g) rfl _ _ g3
    rw [addr_add] at k0 k1 k2 k3
    exact ⟨x, k0, by simpa [Nat.add_assoc] using k1, by simpa [Nat.add_assoc] using k2, by simpa [Nat.add_assoc] using k3, hx.reads⟩

abbrev bank : ByteArray := ⟨#[67, 70, 1, 0, 4, 1, 0, 1, 1, 0, 3, 9, 0, 12, 1, 0, 0, 2, 1, 0, 0, 0, 4, 9, 0, 9, 1, 16, 1, 0, 0, 0, 1, 1, 0, 2, 15, 1, 0, 0, 1, 1, 1, 0, 0, 3, 9, 0, 13, 1, 0, 0]⟩

theorem bank_dec : (Pu.decode bank).2 = (0, 0) ∧ (Pu.decode bank).1.kinds.length = 1 ∧ (Pu.decode bank).1.funcs.length = 4 := by
  decide +kernel

set_option maxRecDepth 100000 in
set_option maxHeartbeats 1000000 in
theorem awake_any (w : World) :
    Calls Try.prog 14 #[] w fun e w' => e = .returned (.bool true) ∧ Below w.heap.size w w' := by
  have hbd := bank_dec
  have hcan := Pu.canon (b := bank) (by rw [bank_dec.1])
  have HC : Hid _ := hcan
  have HB : Hid _ := hbd
  clear hcan hbd
  go_enter Try.func14, Try.ntmps14
  go_wp2_with fail
  refine (decode_any bank _ (by decide)).mono ?_
  rintro e w1 ⟨ho, hb⟩
  rcases ho with ⟨k, v, xs, rfl, hm, hd⟩ | ⟨rfl, hd1, hd2⟩
  · have hr := mdAt_reads hm
    obtain ⟨a1, c1, hk⟩ := owns_shape hm.hk
    obtain ⟨a2, c2, hv⟩ := owns_shape hm.hv
    rw [HB.out.2.1] at hk
    rw [HB.out.2.2] at hv
    subst hk hv
    clear hm hd HB
    generalize (Pu.decode bank).1 = m at *
    have hk0 : F2 (w1.alloc (.cells #[.slice a1 1 c1, .slice a2 4 c2] 33)) w1.heap.size 33 (.slice a1 1 c1) (.slice a2 4 c2) := heap_alloc_new w1 _
    have hb0 := (Below.refl w1.heap.size w1).alloc (Nat.le_refl _) (.cells #[.slice a1 1 c1, .slice a2 4 c2] 33)
    have hr0 := (hr.below hb0).wide (B' := (w1.alloc (.cells #[.slice a1 1 c1, .slice a2 4 c2] 33)).heap.size) (by simp)
    have hb2 := hb.alloc hb.size (.cells #[.slice a1 1 c1, .slice a2 4 c2] 33)
    have d0 := hk0.c0
    have d1 := hk0.c1
    have hz := hb.size
    clear hr hb0 hk0 hb
    go_wp2_with fail
    refine (encode_any m _ _ _ hr0).mono ?_
    rw [HC.out]
    rintro e w2 ⟨rfl, hb⟩
    have hb3 := hb2.trans (hb.mono (by simp only [World.size_alloc]; omega))
    clear hr0 hb2 hb d0 d1
    go_wp2
    go_ret
    exact ⟨rfl, hb3⟩
  · exact absurd (by rw [HB.out.1]) hd2

set_option maxHeartbeats 1000000 in
theorem canon_walk (b : ByteArray) (w : World) (hs : b.size ≤ maxLen) :
    Calls Try.prog 5 #[.string b] w fun e w' => e = .returned (.bool true) ∧ Below w.heap.size w w' := by
  have HC : Hid ((Pu.decode b).2.1 = 0 → Pu.encode (Pu.decode b).1 = (b.data.toList, 0)) := Pu.canon
  go_enter Try.func5, Try.ntmps5
  go_wp2_with fail
  refine (awake_any _).mono ?_
  rintro e w1 ⟨rfl, hb1⟩
  go_wp2_with fail
  refine (decode_any b _ hs).mono ?_
  rintro e w2 ⟨ho, hb⟩
  have hb2 := hb1.trans (hb.mono hb1.size)
  have hz1 := hb1.size
  have hz2 := hb2.size
  clear hb1 hb
  rcases ho with ⟨k, v, xs, rfl, hm, hd⟩ | ⟨rfl, hd1, hd2⟩
  · have hr := mdAt_reads hm
    obtain ⟨a1, c1, rfl⟩ := owns_shape hm.hk
    obtain ⟨a2, c2, rfl⟩ := owns_shape hm.hv
    have HE : Hid _ := HC.out (by rw [hd])
    clear HC hm hd
    generalize (Pu.decode b).1 = m at *
    have hk0 : F2 (w2.alloc (.cells #[.slice a1 m.kinds.length c1, .slice a2 m.funcs.length c2] 33)) w2.heap.size 33 (.slice a1 m.kinds.length c1) (.slice a2 m.funcs.length c2) := heap_alloc_new w2 _
    have hb0 := (Below.refl w2.heap.size w2).alloc (Nat.le_refl _) (.cells #[.slice a1 m.kinds.length c1, .slice a2 m.funcs.length c2] 33)
    have hr0 := (hr.below hb0).wide (B' := (w2.alloc (.cells #[.slice a1 m.kinds.length c1, .slice a2 m.funcs.length c2] 33)).heap.size) (by simp)
    have hb3 := hb2.alloc hz2 (.cells #[.slice a1 m.kinds.length c1, .slice a2 m.funcs.length c2] 33)
    have d0 := hk0.c0
    have d1 := hk0.c1
    clear hr hb0 hk0 hb2
    go_wp2_with fail
    refine (encode_any m _ _ _ hr0).mono ?_
    rw [HE.out]
    have hbe : (⟨b.data.toList.toArray⟩ : ByteArray) = b := by cases b; simp
    simp only [hbe]
    rintro e w3 ⟨rfl, hb⟩
    have hb4 := hb3.trans (hb.mono (by simp only [World.size_alloc]; omega))
    clear hr0 hb3 hb d0 d1 hbe
    go_wp2
    go_ret
    exact ⟨rfl, hb4⟩
  · have hne : ((Pu.decode b).2.1 != 0) = true := by simpa using hd2
    clear hd1 hd2 HC
    generalize (Pu.decode b).2.1 = x at *
    generalize (Pu.decode b).2.2 = y at *
    have hb3 := hb2.alloc hz2 (.cells #[.slice none 0 0, .slice none 0 0] 33)
    go_wp2
    go_ret
    exact ⟨rfl, hb3⟩
end Go.Proofs.Ytjamgmbdilkbcaa
