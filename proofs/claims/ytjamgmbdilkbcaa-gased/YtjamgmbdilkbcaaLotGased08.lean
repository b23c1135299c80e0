import Derived.Test.YtjamgmbdilkbcaaLotGased07
import Derived.Test.YtjamgmbdilkbcaaLotGased01
/- A module that was read can be written: the bridge; the bank. -/
namespace Go.Proofs.Ytjamgmbdilkbcaa
open Go.RowKit

theorem addr_add (g j : Nat) : (⟨g, 0, none⟩ : Addr).add j = ⟨g, 0 + j, none⟩ := by unfold Addr.add; split <;> simp_all

theorem owns_len {w : World} {B e size n : Nat} {v : Value} {xs : List Value} (h : w.ownsRow B e size v n xs) : n ≤ maxLen := by
  rcases h.2 with ⟨_, rfl⟩ | ⟨g, cap, cur, _, _, _, h1, h2, _⟩
  · exact Nat.zero_le _
  · exact Nat.le_trans h1 h2

theorem owns_ints {w : World} {B : Nat} {v : Value} {l : List Int} (h : w.ownsRow B 3 1 v l.length (l.map (Value.int .i64))) : IntsR w w.heap.size v l := by
  have h' := h
  rcases h.2 with ⟨rfl, h0⟩ | ⟨g, cap, cur, rfl, hB, hg, _⟩
  · have : l = [] := List.eq_nil_of_length_eq_zero h0
    subst this
    exact ⟨none, 0, 0, 0, rfl, fun h => absurd h (by simp), fun j hj => absurd hj (by simp)⟩
  · refine ⟨some ⟨g, 0, none⟩, cap, g, 0, rfl, fun _ => ⟨rfl, (Array.getElem?_eq_some_iff.1 hg).1⟩, fun j hj => ?_⟩
    have := h'.cells (g := g) rfl j (.int .i64 (l.getD j 0)) (by simp [List.getD_eq_getElem?_getD, hj])
    rwa [addr_add] at this

theorem cc_get (l : List (Int × Int)) : ∀ j, j < l.length → (cc l)[j * 2]? = some (.int .i64 (l.getD j (0, 0)).1) ∧ (cc l)[j * 2 + 1]? = some (.int .i64 (l.getD j (0, 0)).2) := by
  induction l with
  | nil => intro j hj; simp at hj
  | cons a l ih =>
    intro j hj
    have e : cc (a :: l) = .int .i64 a.1 :: .int .i64 a.2 :: cc l := by simp [cc]
    rw [e]
    cases j with
    | zero => simp
    | succ j =>
      have := ih j (by simpa using hj)
      rw [show (j + 1) * 2 = j * 2 + 1 + 1 from by omega]
      simpa using this

theorem owns_code {w : World} {B : Nat} {v : Value} {l : List (Int × Int)} (h : w.ownsRow B 80 2 v l.length (cc l)) : CodeR w w.heap.size v l := by
  have h' := h
  rcases h.2 with ⟨rfl, h0⟩ | ⟨g, cap, cur, rfl, hB, hg, _⟩
  · have : l = [] := List.eq_nil_of_length_eq_zero h0
    subst this
    exact ⟨none, 0, 0, 0, rfl, fun h => absurd h (by simp), fun j hj => absurd hj (by simp)⟩
  · refine ⟨some ⟨g, 0, none⟩, cap, g, 0, rfl, fun _ => ⟨rfl, (Array.getElem?_eq_some_iff.1 hg).1⟩, fun j hj => ?_⟩
    have hc := cc_get l j hj
    have h1 := h'.cells (g := g) rfl _ _ hc.1
    have h2 := h'.cells (g := g) rfl _ _ hc.2
    rw [addr_add] at h1 h2
    exact ⟨h1, by simpa [Nat.add_assoc] using h2⟩

theorem FnAt.reads {w : World} {B : Nat} {f : Pu.Fn} {x : FV} (h : FnAt w B f x) : FnR w w.heap.size x f :=
  ⟨owns_ints h.p, owns_ints h.r, owns_ints h.l, owns_code h.c, owns_len h.p, owns_len h.r, owns_len h.l, owns_len h.c⟩

theorem FnsAt.get {w : World} {B : Nat} : ∀ {fs : List Pu.Fn} {xs : List FV}, FnsAt w B fs xs → ∀ j, j < fs.length → ∃ x, (fc xs)[j * 4]? = some x.p ∧ (fc xs)[j * 4 + 1]? = some x.r ∧ (fc xs)[j * 4 + 2]? = some x.l ∧ (fc xs)[j * 4 + 3]? = some x.c ∧ FnAt w B (fs.getD j ⟨[], [], [], []⟩) x
  | [], [], _ => fun j hj => absurd hj (by simp)
  | f :: fs, x :: xs, h => fun j hj => by
    rw [fc_cons]
    cases j with
    | zero => exact ⟨x, by simp [FV.cells], by simp [FV.cells], by simp [FV.cells], by simp [FV.cells], h.1⟩
    | succ j =>
      obtain ⟨y, g0, g1, g2, g3, hy⟩ := FnsAt.get h.2 j (by simpa using hj)
      refine ⟨y, ?_, ?_, ?_, ?_, by simpa using hy⟩
      · rw [show (j + 1) * 4 = j * 4 + 1 + 1 + 1 + 1 from by omega]; simpa [FV.cells] using g0
      · rw [show (j + 1) * 4 + 1 = j * 4 + 1 + 1 + 1 + 1 + 1 from by omega]; simpa [FV.cells] using g1
      · rw [show (j + 1) * 4 + 2 = j * 4 + 2 + 1 + 1 + 1 + 1 from by omega]; simpa [FV.cells] using g2
      · rw [show (j + 1) * 4 + 3 = j * 4 + 3 + 1 + 1 + 1 + 1 from by omega]; simpa [FV.cells] using g3
  | [], _ :: _, h => h.elim
  | _ :: _, [], h => h.elim

theorem mdAt_reads {w : World} {B : Nat} {m : Pu.Md} {k v : Value} {xs : List FV} (h : MdAt w B m k v xs) : MdR w w.heap.size k v m := by
  refine ⟨owns_ints h.hk, ?_, owns_len h.hk, owns_len h.hv⟩
  have hv := h.hv
  rcases hv.2 with ⟨rfl, h0⟩ | ⟨g, cap, cur, rfl, hB, hg, _⟩
  · exact ⟨none, 0, 0, 0, by rw [h0], fun h => absurd h (by omega), fun j hj => absurd hj (by omega)⟩
  · refine ⟨some ⟨g, 0, none⟩, cap, g, 0, rfl, fun _ => ⟨rfl, (Array.getElem?_eq_some_iff.1 hg).1⟩, fun j hj => ?_⟩
    obtain ⟨x, g0, g1, g2, g3, hx⟩ := h.hf.get j hj
    have k0 := hv.cells (g := g) rfl _ _ g0
    have k1 := hv.cells (g := g) rfl _ _ g1
    have k2 := hv.cells (g := g) rfl _ _ g2
    have k3 := hv.cells (g := g) rfl _ _ g3
    rw [addr_add] at k0 k1 k2 k3
    exact ⟨x, k0, by simpa [Nat.add_assoc] using k1, by simpa [Nat.add_assoc] using k2, by simpa [Nat.add_assoc] using k3, hx.reads⟩

abbrev bank : ByteArray := ⟨#[67, 70, 1, 0, 4, 1, 0, 1, 1, 0, 3, 9, 0, 12, 1, 0, 0, 2, 1, 0, 0, 0, 4, 9, 0, 9, 1, 16, 1, 0, 0, 0, 1, 1, 0, 2, 15, 1, 0, 0, 1, 1, 1, 0, 0, 3, 9, 0, 13, 1, 0, 0]⟩

theorem bank_dec : (Pu.decode bank).2 = (0, 0) ∧ (Pu.decode bank).1.kinds.length = 1 ∧ (Pu.decode bank).1.funcs.length = 4 := by
  decide +kernel

set_option maxRecDepth 100000 in
set_option maxHeartbeats 1000000 in
theorem awake_any (w : World) :
    Calls Try.prog 14 #[] w fun e w' => e = .returned (.bool true) ∧ Below w.heap.size w w' := by
  have hbd := bank_dec
  have hcan := Pu.canon (b := bank) (by rw [bank_dec.1])
  have HC : Hid _ := hcan
  have HB : Hid _ := hbd
  clear hcan hbd
  go_enter Try.func14, Try.ntmps14
  go_wp2_with fail
  refine (decode_any bank _ (by decide)).mono ?_
  rintro e w1 ⟨ho, hb⟩
  rcases ho with ⟨k, v, xs, rfl, hm, hd⟩ | ⟨rfl, hd1, hd2⟩
  · have hr := mdAt_reads hm
    obtain ⟨a1, c1, hk⟩ := owns_shape hm.hk
    obtain ⟨a2, c2, hv⟩ := owns_shape hm.hv
    rw [HB.out.2.1] at hk
    rw [HB.out.2.2] at hv
    subst hk hv
    clear hm hd HB
    generalize (Pu.decode bank).1 = m at *
    have hk0 : F2 (w1.alloc (.cells #[.slice a1 1 c1, .slice a2 4 c2] 33)) w1.heap.size 33 (.slice a1 1 c1) (.slice a2 4 c2) := heap_alloc_new w1 _
    have hb0 := (Below.refl w1.heap.size w1).alloc (Nat.le_refl _) (.cells #[.slice a1 1 c1, .slice a2 4 c2] 33)
    have hr0 := (hr.below hb0).wide (B' := (w1.alloc (.cells #[.slice a1 1 c1, .slice a2 4 c2] 33)).heap.size) (by simp)
    have hb2 := hb.alloc hb.size (.cells #[.slice a1 1 c1, .slice a2 4 c2] 33)
    have d0 := hk0.c0
    have d1 := hk0.c1
    have hz := hb.size
    clear hr hb0 hk0 hb
    go_wp2_with fail
    refine (encode_any m _ _ _ hr0).mono ?_
    rw [HC.out]
    rintro e w2 ⟨rfl, hb⟩
    have hb3 := hb2.trans (hb.mono (by simp only [World.size_alloc]; omega))
    clear hr0 hb2 hb d0 d1
    go_wp2
    go_ret
    exact ⟨rfl, hb3⟩
  · exact absurd (by rw [HB.out.1]) hd2

set_option maxHeartbeats 1000000 in
theorem canon_walk (b : ByteArray) (w : World) (hs : b.size ≤ maxLen) :
    Calls Try.prog 5 #[.string b] w fun e w' => e = .returned (.bool true) ∧ Below w.heap.size w w' := by
  have HC : Hid ((Pu.decode b).2.1 = 0 → Pu.encode (Pu.decode b).1 = (b.data.toList, 0)) := Pu.canon
  go_enter Try.func5, Try.ntmps5
  go_wp2_with fail
  refine (awake_any _).mono ?_
  rintro e w1 ⟨rfl, hb1⟩
  go_wp2_with fail
  refine (decode_any b _ hs).mono ?_
  rintro e w2 ⟨ho, hb⟩
  have hb2 := hb1.trans (hb.mono hb1.size)
  have hz1 := hb1.size
  have hz2 := hb2.size
  clear hb1 hb
  rcases ho with ⟨k, v, xs, rfl, hm, hd⟩ | ⟨rfl, hd1, hd2⟩
  · have hr := mdAt_reads hm
    obtain ⟨a1, c1, rfl⟩ := owns_shape hm.hk
    obtain ⟨a2, c2, rfl⟩ := owns_shape hm.hv
    have HE : Hid _ := HC.out (by rw [hd])
    clear HC hm hd
    generalize (Pu.decode b).1 = m at *
    have hk0 : F2 (w2.alloc (.cells #[.slice a1 m.kinds.length c1, .slice a2 m.funcs.length c2] 33)) w2.heap.size 33 (.slice a1 m.kinds.length c1) (.slice a2 m.funcs.length c2) := heap_alloc_new w2 _
    have hb0 := (Below.refl w2.heap.size w2).alloc (Nat.le_refl _) (.cells #[.slice a1 m.kinds.length c1, .slice a2 m.funcs.length c2] 33)
    have hr0 := (hr.below hb0).wide (B' := (w2.alloc (.cells #[.slice a1 m.kinds.length c1, .slice a2 m.funcs.length c2] 33)).heap.size) (by simp)
    have hb3 := hb2.alloc hz2 (.cells #[.slice a1 m.kinds.length c1, .slice a2 m.funcs.length c2] 33)
    have d0 := hk0.c0
    have d1 := hk0.c1
    clear hr hb0 hk0 hb2
    go_wp2_with fail
    refine (encode_any m _ _ _ hr0).mono ?_
    rw [HE.out]
    have hbe : (⟨b.data.toList.toArray⟩ : ByteArray) = b := by cases b; simp
    simp only [hbe]
    rintro e w3 ⟨rfl, hb⟩
    have hb4 := hb3.trans (hb.mono (by simp only [World.size_alloc]; omega))
    clear hr0 hb3 hb d0 d1 hbe
    go_wp2
    go_ret
    exact ⟨rfl, hb4⟩
  · have hne : ((Pu.decode b).2.1 != 0) = true := by simpa using hd2
    clear hd1 hd2 HC
    generalize (Pu.decode b).2.1 = x at *
    generalize (Pu.decode b).2.2 = y at *
    have hb3 := hb2.alloc hz2 (.cells #[.slice none 0 0, .slice none 0 0] 33)
    go_wp2
    go_ret
    exact ⟨rfl, hb3⟩
end Go.Proofs.Ytjamgmbdilkbcaa

/- same modules are the same. -/
namespace Go.Proofs.Ytjamgmbdilkbcaa
open Go.RowKit

theorem below_drewN {B : Nat} {a w : World} (h : Below B a w) (n : Nat) : Below B a (w.drewN n) := ⟨h.os, h.tape, h.output, h.size, h.block⟩

set_option maxHeartbeats 400000 in
theorem ints_same (l : List Int) (v v' : Value) (B : Nat) (w : World) (h : IntsR w B v l) (h' : IntsR w B v' l) (hl : l.length ≤ maxLen) :
    Calls Try.prog 46 #[v, v'] w fun e w' => e = .returned (.bool true) ∧ Below B w w' ∧ w'.heap = w.heap := by
  obtain ⟨ao, cap, b, off, rfl, h1, h2⟩ := h
  obtain ⟨ao', cap', b', off', rfl, h1', h2'⟩ := h'
  have H1 : Hid _ := h1
  have H2 : Hid _ := h2
  have H1' : Hid _ := h1'
  have H2' : Hid _ := h2'
  clear h1 h2 h1' h2'
  unfold maxLen at hl
  go_enter Try.func46, Try.ntmps46
  go_wp2
  go_loopw [5] (fun i wr => ∃ k : Nat, k ≤ l.length ∧ i = .int .i64 k ∧ Below B w wr ∧ wr.heap = w.heap) (fun i _ => l.length - (intOf i).toNat)
  case atStart => exact ⟨0, Nat.zero_le _, rfl, Below.refl _ _, rfl⟩
  case round =>
    obtain ⟨k, hk, rfl, hb, hh⟩ := hrel
    have HH : Hid _ := hh
    clear hh
    by_cases hlt : k < l.length
    · obtain ⟨rfl, hbB⟩ := H1.out (by omega)
      obtain ⟨rfl, hbB'⟩ := H1'.out (by omega)
      have c1 := (hb.cell (p := ⟨b, off + k, none⟩) hbB).trans (H2.out k hlt)
      have c2 := (hb.cell (p := ⟨b', off' + k, none⟩) hbB').trans (H2'.out k hlt)
      generalize l.getD k 0 = x at *
      go_wp2
      go_quiet (fail)
      go_wp2
      go_roundw
      case rel => exact ⟨k + 1, hlt, by go_num, below_drewN hb _, HH.out⟩
      case measure => simp [intOf]; omega
    · go_wp2
      go_ret
      exact ⟨rfl, hb, HH.out⟩

theorem IntsR.heap {w w' : World} {B : Nat} {v : Value} {l : List Int} (h : IntsR w B v l) (hh : w'.heap = w.heap) : IntsR w' B v l := by
  obtain ⟨ao, cap, b, off, hv, h1, h2⟩ := h
  refine ⟨ao, cap, b, off, hv, h1, fun j hj => ?_⟩
  rw [World.cell?_of_block (w := w) (by rw [hh])]
  exact h2 j hj

theorem F4.heap {w w' : World} {q : Nat} {t : TypeId} {x0 x1 x2 x3 : Value} (h : F4 w q t x0 x1 x2 x3) (hh : w'.heap = w.heap) : F4 w' q t x0 x1 x2 x3 := by unfold F4; rw [hh]; exact h
theorem F2.heap {w w' : World} {q : Nat} {t : TypeId} {x0 x1 : Value} (h : F2 w q t x0 x1) (hh : w'.heap = w.heap) : F2 w' q t x0 x1 := by unfold F2; rw [hh]; exact h
theorem CodeR.heap {w w' : World} {B : Nat} {v : Value} {l : List (Int × Int)} (h : CodeR w B v l) (hh : w'.heap = w.heap) : CodeR w' B v l := by
  obtain ⟨ao, cap, b, off, hv, h1, h2⟩ := h
  refine ⟨ao, cap, b, off, hv, h1, fun j hj => ?_⟩
  have e : ∀ p : Addr, w'.cell? p = w.cell? p := fun p => World.cell?_of_block (by rw [hh])
  rw [e, e]
  exact h2 j hj
theorem FnR.heap {w w' : World} {B : Nat} {x : FV} {f : Pu.Fn} (h : FnR w B x f) (hh : w'.heap = w.heap) : FnR w' B x f :=
  ⟨h.p.heap hh, h.r.heap hh, h.l.heap hh, h.c.heap hh, h.np, h.nr, h.nl, h.nc⟩
theorem two_allocs (w : World) (a b : Array Value) (t : TypeId) : ((w.alloc (.cells a t)).alloc (.cells b t)).heap[w.heap.size]? = some (.cells a t (0, 0)) ∧ ((w.alloc (.cells a t)).alloc (.cells b t)).heap[w.heap.size + 1]? = some (.cells b t (0, 0)) := by
  constructor
  · rw [Below.heap_alloc _ _ _ (by simp)]; exact heap_alloc_new w _
  · have := heap_alloc_new (w.alloc (.cells a t)) (.cells b t); simpa using this

set_option maxRecDepth 100000 in
set_option maxHeartbeats 2000000 in
theorem same_same (m : Pu.Md) (k v k' v' : Value) (w : World) (h : MdR w w.heap.size k v m) (h' : MdR w w.heap.size k' v' m) :
    Calls Try.prog 17 #[.agg #[k, v], .agg #[k', v']] w fun e w' => e = .returned (.bool true) ∧ Below w.heap.size w w' := by
  obtain ⟨a1, c1, rfl⟩ := h.k.shape
  obtain ⟨a1', c1', rfl⟩ := h'.k.shape
  have hnf := h.nf
  unfold maxLen at hnf
  have hv := h.v
  have hv' := h'.v
  obtain ⟨ao, cap, b, off, rfl, h1, h2⟩ := hv
  obtain ⟨ao', cap', b', off', rfl, h1', h2'⟩ := hv'
  have H1 : Hid _ := h1
  have H2 : Hid _ := h2
  have H1' : Hid _ := h1'
  have H2' : Hid _ := h2'
  clear h1 h2 h1' h2'
  have hb0 : Below w.heap.size w ((w.alloc (.cells #[.slice a1 m.kinds.length c1, .slice ao m.funcs.length cap] 33)).alloc (.cells #[.slice a1' m.kinds.length c1', .slice ao' m.funcs.length cap'] 33)) :=
    ((Below.refl w.heap.size w).alloc (Nat.le_refl _) _).alloc (by simp) _
  have x0 : F2 ((w.alloc (.cells #[.slice a1 m.kinds.length c1, .slice ao m.funcs.length cap] 33)).alloc (.cells #[.slice a1' m.kinds.length c1', .slice ao' m.funcs.length cap'] 33)) w.heap.size 33 (.slice a1 m.kinds.length c1) (.slice ao m.funcs.length cap) :=
    F2.kept (w := w.alloc (.cells #[.slice a1 m.kinds.length c1, .slice ao m.funcs.length cap] 33)) (heap_alloc_new w _) (World.grownBy_alloc _ _ none) (by simp)
  have x1 : F2 ((w.alloc (.cells #[.slice a1 m.kinds.length c1, .slice ao m.funcs.length cap] 33)).alloc (.cells #[.slice a1' m.kinds.length c1', .slice ao' m.funcs.length cap'] 33)) (w.heap.size + 1) 33 (.slice a1' m.kinds.length c1') (.slice ao' m.funcs.length cap') := by
    have := heap_alloc_new (w.alloc (.cells #[.slice a1 m.kinds.length c1, .slice ao m.funcs.length cap] 33)) (.cells #[.slice a1' m.kinds.length c1', .slice ao' m.funcs.length cap'] 33)
    simpa [F2] using this
  have hk0 := h.k.below hb0
  have hk0' := h'.k.below hb0
  have hnk := h.nk
  clear h h'
  go_enter Try.func17, Try.ntmps17
  go_wp2_with fail
  refine (ints_same m.kinds _ _ _ _ hk0 hk0' hnk).mono ?_
  rintro e w1 ⟨rfl, hbn, hh⟩
  have hb1 := hb0.trans hbn
  have y0 : F2 w1 w.heap.size 33 (.slice a1 m.kinds.length c1) (.slice ao m.funcs.length cap) := by unfold F2; rw [hh]; exact x0
  have y1 : F2 w1 (w.heap.size + 1) 33 (.slice a1' m.kinds.length c1') (.slice ao' m.funcs.length cap') := by unfold F2; rw [hh]; exact x1
  clear hb0 x0 x1 hk0 hk0' hbn hh
  have d0 := y0.c1
  have d1 := y1.c1
  go_wp2
  clear d0 d1
  go_loopw [6] (fun i wr => ∃ k : Nat, k ≤ m.funcs.length ∧ i = .int .i64 k ∧ Below w.heap.size w wr ∧ F2 wr w.heap.size 33 (.slice a1 m.kinds.length c1) (.slice ao m.funcs.length cap) ∧ F2 wr (w.heap.size + 1) 33 (.slice a1' m.kinds.length c1') (.slice ao' m.funcs.length cap')) (fun i _ => m.funcs.length - (intOf i).toNat)
  case atStart => exact ⟨0, Nat.zero_le _, rfl, hb1, y0, y1⟩
  case round =>
    obtain ⟨k, hk, rfl, hb, z0, z1⟩ := hrel
    clear hb1 y0 y1
    have d0 := z0.c1
    have d1 := z1.c1
    by_cases hlt : k < m.funcs.length
    · obtain ⟨rfl, hbB⟩ := H1.out (by omega)
      obtain ⟨rfl, hbB'⟩ := H1'.out (by omega)
      obtain ⟨x, g0, g1, g2, g3, hx⟩ := H2.out k hlt
      obtain ⟨x', g0', g1', g2', g3', hx'⟩ := H2'.out k hlt
      obtain ⟨x1, y1, x2, y2, x3, y3, x4, y4, rfl⟩ := hx.shape
      obtain ⟨x1', y1', x2', y2', x3', y3', x4', y4', rfl⟩ := hx'.shape
      have k0 := (hb.cell (p := ⟨b, off + k * 4, none⟩) hbB).trans g0
      have k1 := (hb.cell (p := ⟨b, off + k * 4 + 1, none⟩) hbB).trans g1
      have k2 := (hb.cell (p := ⟨b, off + k * 4 + 2, none⟩) hbB).trans g2
      have k3 := (hb.cell (p := ⟨b, off + k * 4 + 3, none⟩) hbB).trans g3
      have k0' := (hb.cell (p := ⟨b', off' + k * 4, none⟩) hbB').trans g0'
      have k1' := (hb.cell (p := ⟨b', off' + k * 4 + 1, none⟩) hbB').trans g1'
      have k2' := (hb.cell (p := ⟨b', off' + k * 4 + 2, none⟩) hbB').trans g2'
      have k3' := (hb.cell (p := ⟨b', off' + k * 4 + 3, none⟩) hbB').trans g3'
      have hf := hx.below hb
      have hf' := hx'.below hb
      clear g0 g1 g2 g3 g0' g1' g2' g3' hx hx'
      generalize m.funcs.getD k ⟨[], [], [], []⟩ = f at *
      simp only at *
      have s1 := z1.lt
      have s0 := z0.lt
      have s2 : b < wr.heap.size := by omega
      have s3 : b' < wr.heap.size := by omega
      obtain ⟨W0, hW0⟩ : ∃ W0, W0 = (wr.alloc (.cells #[.slice x1 f.params.length y1, .slice x2 f.results.length y2, .slice x3 f.locals.length y3, .slice x4 f.code.length y4] 86)).alloc (.cells #[.slice x1' f.params.length y1', .slice x2' f.results.length y2', .slice x3' f.locals.length y3', .slice x4' f.code.length y4'] 86) := ⟨_, rfl⟩
      have hbW : Below w.heap.size w W0 := by rw [hW0]; exact (hb.alloc (Nat.le_of_lt s0) _).alloc (by simp only [World.size_alloc]; omega) _
      have hgW : wr.grownBy W0 none := by rw [hW0]; exact grown_trans (World.grownBy_alloc _ _ _) (World.grownBy_alloc _ _ _)
      have z0W := z0.kept hgW (by simp)
      have z1W := z1.kept hgW (by simp)
      have p0W : F4 W0 wr.heap.size 86 (.slice x1 f.params.length y1) (.slice x2 f.results.length y2) (.slice x3 f.locals.length y3) (.slice x4 f.code.length y4) := by rw [hW0]; exact (two_allocs wr _ _ _).1
      have p1W : F4 W0 (wr.heap.size + 1) 86 (.slice x1' f.params.length y1') (.slice x2' f.results.length y2') (.slice x3' f.locals.length y3') (.slice x4' f.code.length y4') := by rw [hW0]; exact (two_allocs wr _ _ _).2
      have hfW : FnR W0 w.heap.size _ f := hf.below (by rw [hW0]; exact ((Below.refl w.heap.size wr).alloc (Nat.le_of_lt s0) _).alloc (by simp only [World.size_alloc]; omega) _)
      have hfW' : FnR W0 w.heap.size _ f := hf'.below (by rw [hW0]; exact ((Below.refl w.heap.size wr).alloc (Nat.le_of_lt s0) _).alloc (by simp only [World.size_alloc]; omega) _)
      have HW : Hid _ := hW0
      clear hW0 hf hf' hgW
      go_wp2_with fail
      rw [← HW.out]
      clear HW k0 k1 k2 k3 k0' k1' k2' k3' d0 d1 z0 z1 hb
      refine (ints_same f.params _ _ _ _ hfW.p hfW'.p hfW.np).mono ?_
      rintro e w2 ⟨rfl, hb2, hh2⟩
      have hbW2 := hbW.trans hb2
      have p02 := p0W.heap hh2
      have p12 := p1W.heap hh2
      have HH2 : Hid _ := hh2
      clear hh2 hb2 hbW
      have d0 := p02.c1
      have d1 := p12.c1
      go_wp2_with fail
      clear d0 d1 p02 p12
      refine (ints_same f.results _ _ _ _ (hfW.r.heap HH2.out) (hfW'.r.heap HH2.out) hfW.nr).mono ?_
      rintro e w3 ⟨rfl, hb3, hh3⟩
      have hbW3 := hbW2.trans hb3
      have HH3 : Hid _ := hh3.trans HH2.out
      clear hh3 hb3 hbW2 HH2
      have p02 := p0W.heap HH3.out
      have p12 := p1W.heap HH3.out
      have d0 := p02.c2
      have d1 := p12.c2
      go_wp2_with fail
      clear d0 d1 p02 p12
      refine (ints_same f.locals _ _ _ _ (hfW.l.heap HH3.out) (hfW'.l.heap HH3.out) hfW.nl).mono ?_
      rintro e w4 ⟨rfl, hb4, hh4⟩
      have hbW4 := hbW3.trans hb4
      have HH4 : Hid _ := hh4.trans HH3.out
      clear hh4 hb4 hbW3 HH3
      have p0 := p0W.heap HH4.out
      have p1 := p1W.heap HH4.out
      have z0 := z0W.heap HH4.out
      have z1 := z1W.heap HH4.out
      have hc := hfW.c.heap HH4.out
      have hc' := hfW'.c.heap HH4.out
      have hnc := hfW.nc
      unfold maxLen at hnc
      clear p0W p1W z0W z1W hfW hfW' HH4
      have d0 := p0.c3
      have d1 := p1.c3
      go_wp2
      clear d0 d1
      obtain ⟨u, cu, ub, uo, hu, U1, U2⟩ := hc
      obtain ⟨u', cu', ub', uo', hu', U1', U2'⟩ := hc'
      simp only [Value.slice.injEq, true_and] at hu hu'
      obtain ⟨rfl, rfl⟩ := hu
      obtain ⟨rfl, rfl⟩ := hu'
      have U1 : Hid _ := U1
      have U2 : Hid _ := U2
      have U1' : Hid _ := U1'
      have U2' : Hid _ := U2'
      go_loopw [12] (fun i ws => ∃ j : Nat, j ≤ f.code.length ∧ i = .int .i64 j ∧ Below w.heap.size w ws ∧ ws.heap = w4.heap) (fun i _ => f.code.length - (intOf i).toNat)
      case atStart => exact ⟨0, Nat.zero_le _, rfl, hbW4, rfl⟩
      case round =>
        obtain ⟨j, hj, rfl, hbs, hhs⟩ := hrel
        have HHS : Hid _ := hhs
        have q0 := (p0.heap hhs).c3
        have q1 := (p1.heap hhs).c3
        by_cases hjl : j < f.code.length
        · obtain ⟨rfl, hub⟩ := U1.out (by omega)
          obtain ⟨rfl, hub'⟩ := U1'.out (by omega)
          have e : ∀ p : Addr, wr.cell? p = w4.cell? p := fun p => World.cell?_of_block (by rw [hhs])
          have r0 := (e _).trans (U2.out j hjl).1
          have r1 := (e _).trans (U2.out j hjl).2
          have r0' := (e _).trans (U2'.out j hjl).1
          have r1' := (e _).trans (U2'.out j hjl).2
          clear e hhs
          generalize f.code.getD j (0, 0) = y at *
          go_wp2
          go_quiet (fail)
          go_wp2
          go_roundw
          case rel => exact ⟨j + 1, hjl, by go_num, below_drewN hbs _, HHS.out⟩
          case measure => simp [intOf]; omega
        · clear hhs
          have z0s := z0.heap HHS.out
          have z1s := z1.heap HHS.out
          go_wp2
          go_roundw
          case rel => exact ⟨k + 1, hlt, by go_num, hbs, z0s, z1s⟩
          case measure => simp [intOf]; omega
    · go_wp2
      go_ret
      exact ⟨rfl, hb⟩
end Go.Proofs.Ytjamgmbdilkbcaa
