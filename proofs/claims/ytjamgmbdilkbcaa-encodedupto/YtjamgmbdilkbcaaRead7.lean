/- The walks of wire's reader: end, ReadModule; coffer.Decode. -/
import Derived.Test.YtjamgmbdilkbcaaRead6
namespace Go.Proofs.Ytjamgmbdilkbcaa
open Go.RowKit

set_option maxHeartbeats 400000 in
theorem end_any (p : Nat) (b : ByteArray) (s : Pu.St) (w : World) (h : Rd w p b s) :
    Calls Try.prog 78 #[.pointer (some ⟨p, 0, none⟩)] w fun e w' =>
      e = .returned (.tuple #[]) ∧ Rd w' p b (Pu.atEnd b s) ∧ w.grownBy w' (some p) := by
  have h0 := h.c0
  have h1 := h.c1
  have h2 := h.c2
  have h3 := h.fz 2
  obtain ⟨k, bad⟩ := s
  simp only at *
  by_cases hk : k < b.size
  · have e1 : Pu.atEnd b (k, bad) = (k, true) := by simp [Pu.atEnd, hk]
    rw [e1]
    clear e1
    have h4 : ∀ n, Rd ((w.drewN n).setCell ⟨p, 2, none⟩ (.bool true)) p b (k, true) := by
      intro n
      unfold Rd at h ⊢
      simp [World.setCell, Array.getElem?_modify, h]
    have hg : ∀ n, w.grownBy ((w.drewN n).setCell ⟨p, 2, none⟩ (.bool true)) (some p) := fun n => grown_setCell _ _ _ _ _
    have H4 : Hid _ := h4
    have HG : Hid _ := hg
    clear h4 hg h
    go_enter Try.func78, Try.ntmps78
    go_wp2
    go_quiet (fail)
    go_wp2
    go_end0
    exact ⟨rfl, H4.out _, HG.out _⟩
  · have e1 : Pu.atEnd b (k, bad) = (k, bad) := by simp [Pu.atEnd, hk]
    rw [e1]
    clear e1
    go_enter Try.func78, Try.ntmps78
    go_wp2
    go_quiet (fail)
    go_wp2
    go_end0
    exact ⟨rfl, by simpa [Rd] using h, ⟨rfl, rfl, rfl, Nat.le_refl _, fun _ _ _ => rfl⟩⟩

theorem MdAt.kept {w w' : World} {B p : Nat} {m : Pu.Md} {k v : Value} {xs : List FV} (h : MdAt w B m k v xs) (hg : w.grownBy w' (some p)) (hp : p < B) : MdAt w' B m k v xs :=
  ⟨owns_grown h.hk hg hp, owns_grown h.hv hg hp, h.hf.imp (fun _ _ k => k.kept hg hp), h.nd⟩
theorem MdAt.none {w w' : World} {B : Nat} {m : Pu.Md} {k v : Value} {xs : List FV} (h : MdAt w B m k v xs) (hg : w.grownBy w' none) : MdAt w' B m k v xs :=
  ⟨h.hk.kept hg (by cases k.ownBlock <;> simp), h.hv.kept hg (by cases v.ownBlock <;> simp), h.hf.imp (fun _ _ k => k.none hg), h.nd⟩
theorem MdAt.base {w : World} {B B' : Nat} {m : Pu.Md} {k v : Value} {xs : List FV} (h : MdAt w B m k v xs) (hB : B' ≤ B) : MdAt w B' m k v xs :=
  ⟨owns_base h.hk hB, owns_base h.hv hB, h.hf.lower hB, h.nd⟩

/-- Decode's answer: nothing, or a module in fresh memory. -/
def DecOut (w w' : World) (b : ByteArray) (e : Ending) : Prop :=
  (∃ (k v : Value) (xs : List FV), e = .returned (.tuple #[.agg #[k, v], .int .i64 0, .int .i64 0]) ∧ MdAt w' w.heap.size (Pu.decode b).1 k v xs ∧ (Pu.decode b).2 = (0, 0)) ∨
  (e = .returned (.tuple #[.agg #[.slice none 0 0, .slice none 0 0], .int .i64 (Pu.decode b).2.1, .int .i64 (Pu.decode b).2.2]) ∧ (Pu.decode b).1 = ⟨[], []⟩ ∧ (Pu.decode b).2.1 ≠ 0)

set_option maxHeartbeats 1000000 in
theorem readModule_any (b : ByteArray) (w : World) (hs : b.size ≤ maxLen) :
    Calls Try.prog 44 #[.string b] w fun e w' => DecOut w w' b e ∧ Below w.heap.size w w' := by
  by_cases hl : 1500 < b.size
  · have hd : Pu.decode b = (⟨[], []⟩, 1, 0) := by simp [Pu.decode, hl]
    have HD : Hid _ := hd
    clear hd
    go_enter Try.func44, Try.ntmps44
    go_wp2
    refine bodyPost_ret (v := .tuple #[.agg #[.slice none 0 0, .slice none 0 0], .int .i64 1, .int .i64 0]) (by simp [results, Try.results44, go_sem]) rfl ⟨.inr ?_, (Below.refl _ _).alloc (Nat.le_refl _) _⟩
    rw [HD.out]
    exact ⟨rfl, rfl, by decide⟩
  · have hr0 : Rd ((w.alloc (Obj.cells #[Value.slice none 0 0, Value.slice none 0 0] 33)).alloc (Obj.cells #[Value.string b, Value.int IntKind.i64 0, Value.bool false] 142)) (w.heap.size + 1) b (0, false) := by
      have := heap_alloc_new (w.alloc (Obj.cells #[Value.slice none 0 0, Value.slice none 0 0] 33)) (Obj.cells #[Value.string b, Value.int IntKind.i64 0, Value.bool false] 142)
      simpa [Rd] using this
    have hres : F2 ((w.alloc (Obj.cells #[Value.slice none 0 0, Value.slice none 0 0] 33)).alloc (Obj.cells #[Value.string b, Value.int IntKind.i64 0, Value.bool false] 142)) w.heap.size 33 (.slice none 0 0) (.slice none 0 0) :=
      F2.kept (w := w.alloc (Obj.cells #[Value.slice none 0 0, Value.slice none 0 0] 33)) (heap_alloc_new w _) (World.grownBy_alloc _ _ none) (by simp)
    have hb0 : Below w.heap.size w ((w.alloc (Obj.cells #[Value.slice none 0 0, Value.slice none 0 0] 33)).alloc (Obj.cells #[Value.string b, Value.int IntKind.i64 0, Value.bool false] 142)) :=
      ((Below.refl _ _).alloc (Nat.le_refl _) _).alloc (by simp) _
    go_enter Try.func44, Try.ntmps44
    go_wp2_with fail
    refine (module_any (w.heap.size + 1) b _ hr0 hs).mono ?_
    rintro e w1 ⟨k, v, xs, rfl, hm, hr1, hg⟩
    have hres1 := hres.kept hg (by simp)
    have hb1 := hb0.grown hg (by simp only [World.size_alloc]; omega) (by intro k hk; simp at hk; omega)
    clear hr0 hres hb0 hg
    simp only [World.size_alloc] at hm
    obtain ⟨a1, c1, rfl⟩ := owns_shape hm.hk
    obtain ⟨a2, c2, rfl⟩ := owns_shape hm.hv
    have HD : Hid (Pu.decode b = if (Pu.atEnd b (Pu.module b).2).2 = true then (⟨[], []⟩, 2, ((Pu.atEnd b (Pu.module b).2).1 : Int)) else ((Pu.module b).1, 0, 0)) := by
      show Pu.decode b = _
      unfold Pu.decode
      rw [if_neg hl]
    generalize Pu.module b = q at *
    obtain ⟨m, s⟩ := q
    simp only at *
    have hr2 := hr1.kept (World.grownBy_alloc w1 (.cells #[.slice a1 m.kinds.length c1, .slice a2 m.funcs.length c2] 33) none) (by simp)
    have hres2 := hres1.kept (World.grownBy_alloc w1 (.cells #[.slice a1 m.kinds.length c1, .slice a2 m.funcs.length c2] 33) none) (by simp)
    have hm2 := hm.none (World.grownBy_alloc w1 (.cells #[.slice a1 m.kinds.length c1, .slice a2 m.funcs.length c2] 33) none)
    have hmv2 : F2 (w1.alloc (.cells #[.slice a1 m.kinds.length c1, .slice a2 m.funcs.length c2] 33)) w1.heap.size 33 (.slice a1 m.kinds.length c1) (.slice a2 m.funcs.length c2) := heap_alloc_new w1 _
    have hw1 := hr1.lt
    have hb2 := hb1.alloc (by omega) (.cells #[.slice a1 m.kinds.length c1, .slice a2 m.funcs.length c2] 33)
    clear hr1 hres1 hm hb1
    go_wp2_with fail
    refine (end_any (w.heap.size + 1) b _ _ hr2).mono ?_
    rintro e w3 ⟨rfl, hr3, hg⟩
    have hres3 := hres2.kept hg (by simp)
    have hm3 := hm2.kept hg (by omega)
    have hmv3 := hmv2.kept hg (by simp; omega)
    have hb3 := hb2.grown hg (by simp only [World.size_alloc]; omega) (by intro k hk; simp at hk; omega)
    clear hr2 hres2 hm2 hmv2 hb2 hg
    generalize Pu.atEnd b s = s' at *
    obtain ⟨at', bad⟩ := s'
    simp only at *
    have d1 := hr3.c1
    have d2 := hr3.c2
    have m0 := hmv3.c0
    have m1 := hmv3.c1
    have g0 := hres3.c0
    have g1 := hres3.c1
    have e0 := hres3.fz 0
    have e1 := hres3.fz 1
    cases bad with
    | true =>
      go_wp2
      go_region
      all_goals go_wp2
      clear g0 g1 e0 e1 d1 d2 m0 m1
      have R := (hres3.set0 (.slice none 0 0)).set1 (.slice none 0 0)
      have q0 := R.c0
      have q1 := R.c1
      refine bodyPost_ret (v := .tuple #[.agg #[.slice none 0 0, .slice none 0 0], .int .i64 2, .int .i64 at']) (by simp [results, Try.results44, go_sem, q0, q1]) rfl ⟨.inr ?_, ((hb3.setCell (Nat.le_refl _) _).setCell (Nat.le_refl _) _).drew⟩
      rw [HD.out, if_pos trivial]
      exact ⟨rfl, rfl, by show (2 : Int) ≠ 0; decide⟩
    | false =>
      go_wp2
      clear g0 g1 e0 e1 d1 d2 m0 m1
      have R := (hres3.set0 (.slice a1 m.kinds.length c1)).set1 (.slice a2 m.funcs.length c2)
      have q0 := R.c0
      have q1 := R.c1
      refine bodyPost_ret (v := .tuple #[.agg #[.slice a1 m.kinds.length c1, .slice a2 m.funcs.length c2], .int .i64 0, .int .i64 0]) (by simp [results, Try.results44, go_sem, q0, q1]) rfl ⟨.inl ?_, (hb3.setCell (Nat.le_refl _) _).setCell (Nat.le_refl _) _⟩
      rw [HD.out, if_neg (by simp)]
      exact ⟨_, _, xs, rfl, ((hm3.kept (grown_set _ _ _ _) (by omega)).kept (grown_set _ _ _ _) (by omega)).base (by omega), rfl⟩

set_option maxHeartbeats 1000000 in
theorem decode_any (b : ByteArray) (w : World) (hs : b.size ≤ maxLen) :
    Calls Try.prog 15 #[.string b] w fun e w' => DecOut w w' b e ∧ Below w.heap.size w w' := by
  go_enter Try.func15, Try.ntmps15
  go_wp2_with fail
  refine (readModule_any b _ hs).mono ?_
  rintro e w1 ⟨ho, hb⟩
  have hb' : Below w.heap.size w w1 := ((Below.refl w.heap.size w).alloc (Nat.le_refl _) _).trans (hb.mono (by simp))
  have hres : F2 w1 w.heap.size 33 (.slice none 0 0) (.slice none 0 0) := (hb.block w.heap.size (by simp)).trans (heap_alloc_new w _)
  have g0 := hres.c0
  have g1 := hres.c1
  have e0 := hres.fz 0
  have e1 := hres.fz 1
  clear hb
  rcases ho with ⟨k, v, xs, rfl, hm, hd⟩ | ⟨rfl, hd1, hd2⟩
  · obtain ⟨a1, c1, rfl⟩ := owns_shape hm.hk
    obtain ⟨a2, c2, rfl⟩ := owns_shape hm.hv
    have HD : Hid _ := hd
    clear hd
    go_wp2
    clear g0 g1 e0 e1
    have R := (hres.set0 (.slice a1 (Pu.decode b).1.kinds.length c1)).set1 (.slice a2 (Pu.decode b).1.funcs.length c2)
    have q0 := R.c0
    have q1 := R.c1
    refine bodyPost_ret (v := .tuple #[.agg #[.slice a1 (Pu.decode b).1.kinds.length c1, .slice a2 (Pu.decode b).1.funcs.length c2], .int .i64 0, .int .i64 0]) (by simp [results, Try.results15, go_sem, q0, q1]) rfl ⟨.inl ?_, (hb'.setCell (Nat.le_refl _) _).setCell (Nat.le_refl _) _⟩
    simp only [World.size_alloc] at hm
    exact ⟨_, _, xs, rfl, ((hm.kept (grown_set _ _ _ _) (by omega)).kept (grown_set _ _ _ _) (by omega)).base (by omega), HD.out⟩
  · have HD : Hid _ := And.intro hd1 hd2
    clear hd1 hd2
    go_wp2
    clear g0 g1 e0 e1
    have R := (hres.set0 (.slice none 0 0)).set1 (.slice none 0 0)
    have q0 := R.c0
    have q1 := R.c1
    refine bodyPost_ret (v := .tuple #[.agg #[.slice none 0 0, .slice none 0 0], .int .i64 (Pu.decode b).2.1, .int .i64 (Pu.decode b).2.2]) (by simp [results, Try.results15, go_sem, q0, q1]) rfl ⟨.inr ?_, (hb'.setCell (Nat.le_refl _) _).setCell (Nat.le_refl _) _⟩
    exact ⟨rfl, HD.out⟩
end Go.Proofs.Ytjamgmbdilkbcaa
