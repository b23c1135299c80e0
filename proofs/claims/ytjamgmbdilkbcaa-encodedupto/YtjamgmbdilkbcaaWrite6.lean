/- The walks of wire's writer: function. -/
import Derived.Test.YtjamgmbdilkbcaaWrite5
namespace Go.Proofs.Ytjamgmbdilkbcaa
open Go.RowKit

theorem wCode_append (a b : List (Int × Int)) : Pu.wCode (a ++ b) = Pu.wCode a ++ Pu.wCode b := by simp [Pu.wCode]
theorem wCode_take (l : List (Int × Int)) (k : Nat) (hlt : k < l.length) : Pu.wCode (l.take (k + 1)) = Pu.wCode (l.take k) ++ [Pu.byte (l.getD k (0, 0)).1, Pu.byte (l.getD k (0, 0)).2] := by
  have e : l.getD k (0, 0) = l[k] := by simp [List.getD_eq_getElem?_getD, hlt]
  rw [e, List.take_succ_eq_append_getElem hlt, wCode_append]
  rfl

set_option maxHeartbeats 1000000 in
theorem wfunction_any (f : Pu.Fn) (x : FV) (B p : Nat) (acc : List UInt8) (w : World) (h : Wr w B p acc) (hx : FnR w B x f) (hacc : acc.length ≤ 10000)
    (l1 : f.params.length ≤ 255) (l2 : f.results.length ≤ 255) (l3 : f.locals.length ≤ 255) (l4 : f.code.length ≤ 255)
    (b1 : ∀ y ∈ f.params, 0 ≤ y ∧ y ≤ 255) (b2 : ∀ y ∈ f.results, 0 ≤ y ∧ y ≤ 255) (b3 : ∀ y ∈ f.locals, 0 ≤ y ∧ y ≤ 255) (b4 : ∀ y ∈ f.code, (0 ≤ y.1 ∧ y.1 ≤ 255) ∧ (0 ≤ y.2 ∧ y.2 ≤ 255)) :
    Calls Try.prog 103 #[.pointer (some ⟨p, 0, none⟩), .agg #[x.p, x.r, x.l, x.c]] w fun e w' => e = .returned (.tuple #[]) ∧ Wr w' B p (acc ++ Pu.wFn f) ∧ Below B w w' ∧ WF p w w' := by
  obtain ⟨a1, c1, a2, c2, a3, c3, a4, c4, rfl⟩ := hx.shape
  have hpl := h.lt
  have hB := h.le
  have hx4 : F4 (w.alloc (.cells #[.slice a1 f.params.length c1, .slice a2 f.results.length c2, .slice a3 f.locals.length c3, .slice a4 f.code.length c4] 86)) w.heap.size 86 (.slice a1 f.params.length c1) (.slice a2 f.results.length c2) (.slice a3 f.locals.length c3) (.slice a4 f.code.length c4) := heap_alloc_new w _
  have hb0 := (Below.refl B w).alloc (by omega) (.cells #[.slice a1 f.params.length c1, .slice a2 f.results.length c2, .slice a3 f.locals.length c3, .slice a4 f.code.length c4] 86)
  have hf0 := (WF.refl p w).alloc (.cells #[.slice a1 f.params.length c1, .slice a2 f.results.length c2, .slice a3 f.locals.length c3, .slice a4 f.code.length c4] 86)
  have hw0 := h.none (World.grownBy_alloc w (.cells #[.slice a1 f.params.length c1, .slice a2 f.results.length c2, .slice a3 f.locals.length c3, .slice a4 f.code.length c4] 86) none)
  have hx0 := hx.below hb0
  have B1 : Hid _ := b1
  have B2 : Hid _ := b2
  have B3 : Hid _ := b3
  have B4 : Hid _ := b4
  clear h hx b1 b2 b3 b4
  go_enter Try.func103, Try.ntmps103
  go_wp2_with fail
  refine (wlist_any f.params _ B p acc _ hw0 hx0.p (by omega) l1 B1.out).mono ?_
  rintro e w1 ⟨rfl, hw1, hb, hf⟩
  have hx1 := hx0.below hb
  have k1 := hx4.wf hf (by omega)
  have hb1 := hb0.trans hb
  have hf1 := hf0.trans hf
  clear hw0 hx0 hb0 hf0 hb hf hx4
  have d0 := k1.c1
  go_wp2_with fail
  clear d0
  refine (wlist_any f.results _ B p _ _ hw1 hx1.r (by simp [Pu.wList]; omega) l2 B2.out).mono ?_
  rintro e w2 ⟨rfl, hw2, hb, hf⟩
  have hx2 := hx1.below hb
  have k2 := k1.wf hf (by omega)
  have hb2 := hb1.trans hb
  have hf2 := hf1.trans hf
  clear hw1 hx1 hb1 hf1 hb hf k1
  have d0 := k2.c2
  go_wp2_with fail
  clear d0
  refine (wlist_any f.locals _ B p _ _ hw2 hx2.l (by simp [Pu.wList]; omega) l3 B3.out).mono ?_
  rintro e w3 ⟨rfl, hw3, hb, hf⟩
  have hx3 := hx2.below hb
  have k3 := k2.wf hf (by omega)
  have hb3 := hb2.trans hb
  have hf3 := hf2.trans hf
  clear hw2 hx2 hb2 hf2 hb hf k2
  have d0 := k3.c3
  go_wp2_with fail
  clear d0
  refine (wnumber_any f.code.length B p _ _ hw3 (by simp [Pu.wList]; omega) (by omega) (by omega)).mono ?_
  rintro e w4 ⟨rfl, hw4, hb, hf⟩
  have hx4 := hx3.c.below hb
  have k4 := k3.wf hf (by omega)
  have hb4 := hb3.trans hb
  have hf4 := hf3.trans hf
  clear hw3 hx3 hb3 hf3 hb hf k3
  obtain ⟨ao, cap, b, off, hav, h1, h2⟩ := hx4
  simp only [Value.slice.injEq, true_and] at hav
  obtain ⟨rfl, rfl⟩ := hav
  have H1 : Hid _ := h1
  have H2 : Hid _ := h2
  clear h1 h2
  go_wp2
  go_loopw [4] (fun i wr => ∃ k : Nat, k ≤ f.code.length ∧ i = .int .i64 k ∧ Wr wr B p (((acc ++ Pu.wList f.params) ++ Pu.wList f.results) ++ Pu.wList f.locals ++ [Pu.byte f.code.length] ++ Pu.wCode (f.code.take k)) ∧ Below B w wr ∧ WF p w wr ∧ Below B w4 wr ∧
      F4 wr w.heap.size 86 (.slice a1 f.params.length c1) (.slice a2 f.results.length c2) (.slice a3 f.locals.length c3) (.slice a4 f.code.length c4)) (fun i _ => f.code.length - (intOf i).toNat)
  case atStart => exact ⟨0, Nat.zero_le _, rfl, by simpa [Pu.wCode] using hw4, hb4, hf4, Below.refl _ _, k4⟩
  case round =>
    obtain ⟨k, hk, rfl, hw, hb, hf, hbb, hk4⟩ := hrel
    clear hw4 hb4 hf4 k4
    have d3 := hk4.c3
    by_cases hlt : k < f.code.length
    · obtain ⟨rfl, hbB⟩ := H1.out (by omega)
      have hc0 := (hbb.cell (p := ⟨b, off + k * 2, none⟩) hbB).trans (H2.out k hlt).1
      have hc1 := (hbb.cell (p := ⟨b, off + k * 2 + 1, none⟩) hbB).trans (H2.out k hlt).2
      have hxm := B4.out (f.code.getD k (0, 0)) (by rw [List.getD_eq_getElem?_getD, List.getElem?_eq_getElem hlt]; exact List.getElem_mem hlt)
      have HT : Hid (Pu.wCode (f.code.take (k + 1)) = Pu.wCode (f.code.take k) ++ [Pu.byte (f.code.getD k (0, 0)).1, Pu.byte (f.code.getD k (0, 0)).2]) := by
        exact wCode_take f.code k hlt
      have hwl : (Pu.wCode (f.code.take k)).length ≤ 1000 := by
        have : ∀ l : List (Int × Int), (Pu.wCode l).length = l.length * 2 := by
          intro l
          induction l with
          | nil => rfl
          | cons a l ih => simp [Pu.wCode] at ih ⊢; omega
        rw [this, List.length_take]; omega
      generalize f.code.getD k (0, 0) = y at *
      obtain ⟨op, arg⟩ := y
      simp only at *
      obtain ⟨⟨ho0, ho1⟩, ha0, ha1⟩ := hxm
      go_wp2_with fail
      refine (wnumber_any op B p _ _ hw (by simp [Pu.wList]; omega) ho0 ho1).mono ?_
      rintro e w5 ⟨rfl, hw5, hbn, hfn⟩
      have hb5 := hb.trans hbn
      have hf5 := hf.trans hfn
      have hbb5 := hbb.trans hbn
      have hk5 := hk4.wf hfn (by omega)
      have hc5 := (hbn.cell (p := ⟨b, off + k * 2 + 1, none⟩) hbB).trans hc1
      have d5 := hk5.c3
      clear hc0 hc1 hw hb hf hbb hk4 d3 hbn hfn
      go_wp2_with fail
      refine (wnumber_any arg B p _ _ hw5 (by simp [Pu.wList]; omega) ha0 ha1).mono ?_
      rintro e w6 ⟨rfl, hw6, hbn, hfn⟩
      have hb6 := hb5.trans hbn
      have hf6 := hf5.trans hfn
      have hbb6 := hbb5.trans hbn
      have hk6 := hk5.wf hfn (by omega)
      clear hc5 d5 hw5 hb5 hf5 hbb5 hk5 hbn hfn
      go_wp2
      go_roundw
      case rel => exact ⟨k + 1, hlt, by go_num, by rw [HT.out]; simpa using hw6, hb6, hf6, hbb6, hk6⟩
      case measure => simp [intOf]; omega
    · go_wp2
      go_end0
      refine ⟨rfl, ?_, hb, hf⟩
      rw [List.take_of_length_le (by omega)] at hw
      simpa [Pu.wFn] using hw
end Go.Proofs.Ytjamgmbdilkbcaa
