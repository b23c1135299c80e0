/- The walks of wire's writer: number, list. -/
import Derived.Test.YtjamgmbdilkbcaaWrite4
namespace Go.Proofs.Ytjamgmbdilkbcaa
open Go.RowKit

theorem Try.info5 : (Try.prog.info? 5).map (fun i => (i.zero, i.size, i.bytes)) = some (some (.int .u8 0), 1, 1) := by kernel_rfl

def bv (l : List UInt8) : List Value := l.map fun c => .int .u8 (c.toNat : Int)

/-- the writer's block p, and its bytes, all from block B on. -/
def Wr (w : World) (B p : Nat) (l : List UInt8) : Prop :=
  ∃ v, w.heap[p]? = some (.cells #[v] 146 (0, 0)) ∧ w.ownsRow B 5 1 v l.length (bv l) ∧ B ≤ p

theorem Wr.none {w w' : World} {B p : Nat} {l : List UInt8} (h : Wr w B p l) (hg : w.grownBy w' none) : Wr w' B p l := by
  obtain ⟨v, h1, h2, h3⟩ := h
  exact ⟨v, (hg.block p (Array.getElem?_eq_some_iff.1 h1).1 (by simp)).trans h1, h2.kept hg (by cases v.ownBlock <;> simp), h3⟩
theorem Wr.lt {w : World} {B p : Nat} {l : List UInt8} (h : Wr w B p l) : p < w.heap.size := by
  obtain ⟨v, h1, h2, h3⟩ := h
  exact (Array.getElem?_eq_some_iff.1 h1).1
theorem Wr.le {w : World} {B p : Nat} {l : List UInt8} (h : Wr w B p l) : B ≤ p := by
  obtain ⟨v, h1, h2, h3⟩ := h
  exact h3

/-- the writer at p turns no old block but its own and such as hold bytes. -/
structure WF (p : Nat) (w w' : World) : Prop where
  size : w.heap.size ≤ w'.heap.size
  block : ∀ k, k < w.heap.size → k ≠ p → (∀ c fr, w.heap[k]? ≠ some (.cells c 5 fr)) → w'.heap[k]? = w.heap[k]?

theorem WF.refl (p : Nat) (w : World) : WF p w w := ⟨Nat.le_refl _, fun _ _ _ _ => rfl⟩
theorem WF.trans {p : Nat} {a b c : World} (h : WF p a b) (k : WF p b c) : WF p a c :=
  ⟨Nat.le_trans h.size k.size, fun i hi hp hn => by
    have e := h.block i hi hp hn
    rw [k.block i (Nat.lt_of_lt_of_le hi h.size) hp (by rw [e]; exact hn), e]⟩
theorem WF.alloc {p : Nat} {a b : World} (h : WF p a b) (o : Obj) : WF p a (b.alloc o) :=
  h.trans ⟨by simp, fun k hk _ _ => Below.heap_alloc b o k hk⟩
theorem F4.wf {w w' : World} {q p : Nat} {x0 x1 x2 x3 : Value} (h : F4 w q 86 x0 x1 x2 x3) (hw : WF p w w') (hq : q ≠ p) : F4 w' q 86 x0 x1 x2 x3 :=
  (hw.block q h.lt hq (fun c fr e => by unfold F4 at h; rw [h] at e; simp at e)).trans h
theorem F2.wf {w w' : World} {q p : Nat} {x0 x1 : Value} (h : F2 w q 33 x0 x1) (hw : WF p w w') (hq : q ≠ p) : F2 w' q 33 x0 x1 :=
  (hw.block q h.lt hq (fun c fr e => by unfold F2 at h; rw [h] at e; simp at e)).trans h

set_option maxHeartbeats 400000 in
theorem wnumber_any (n : Int) (B p : Nat) (l : List UInt8) (w : World) (h : Wr w B p l) (hl : l.length ≤ 1000000) (hn0 : 0 ≤ n) (hn1 : n ≤ 255) :
    Calls Try.prog 101 #[.pointer (some ⟨p, 0, none⟩), .int .i64 n] w fun e w' => e = .returned (.tuple #[]) ∧ Wr w' B p (l ++ [Pu.byte n]) ∧ Below B w w' ∧ WF p w w' := by
  obtain ⟨i0, hi0, hz0, hz1, hz2⟩ := info_parts Try.info5
  obtain ⟨v, h1, h2, h3⟩ := h
  have hp : p < w.heap.size := (Array.getElem?_eq_some_iff.1 h1).1
  obtain ⟨ao, cap, rfl⟩ := owns_shape h2
  have c0 : w.cell? ⟨p, 0, none⟩ = some (.slice ao l.length cap) := by simp [World.cell?, h1]
  go_enter Try.func101, Try.ntmps101
  go_wp2_with (at_builtin; refine wpList_append_own _ rfl _ _ 122 rfl B 5 i0 (.int .u8 0) 1 1 Try.underlying122 hi0 hz0 hz1 hz2 rfl (by decide) _ _ _ rfl (h2.alloc _) ⟨w.heap.size, 0, none⟩ 1 1 [.int .u8 n] rfl rfl (cell_one_new _ _ _) ?c2 ?c3 ?c4 ?c5 ?_)
  case c2 => intro u hu; simp at hu; subst hu; rfl
  case c3 => unfold maxLen; omega
  case c4 => omega
  case c5 => simp only [World.size_alloc]; omega
  intro v' w1 hown' hgrow _
  have hpb : w1.heap[p]? = some (.cells #[.slice ao l.length cap] 146 (0, 0)) := by
    rw [hgrow.block p (by simp only [World.size_alloc]; omega) ?_, Below.heap_alloc _ _ _ hp]
    · exact h1
    · intro e
      rcases h2.2 with ⟨h2, _⟩ | ⟨g, cap', cur, h2, _, hh, _⟩
      · rw [h2] at e; simp [Value.ownBlock] at e
      · rw [h2] at e
        simp only [Value.ownBlock, Option.some.injEq] at e
        rw [← e, h1] at hh
        simp at hh
  have hb1 : Below B w w1 := ((Below.refl B w).alloc (by omega) _).grown hgrow (by simp only [World.size_alloc]; omega) (fun k hk => (h2.lt k hk).1)
  have c1 : w1.cell? ⟨p, 0, none⟩ = some (.slice ao l.length cap) := by simp [World.cell?, hpb]
  have f1 : w1.frozen? ⟨p, 0, none⟩ = false := by simp [World.frozen?, hpb]
  obtain ⟨ao', cap', rfl⟩ := owns_shape hown'
  have hne : (Value.slice ao' (l.length + 1) cap').ownBlock ≠ some p := by
    intro e
    rcases hown'.2 with ⟨h2, _⟩ | ⟨g, cap', cur, h2, _, hh, _⟩
    · rw [h2] at e; simp [Value.ownBlock] at e
    · rw [h2] at e
      simp only [Value.ownBlock, Option.some.injEq] at e
      rw [e, hpb] at hh
      simp at hh
  have W : Wr (w1.setCell ⟨p, 0, none⟩ (.slice ao' (l.length + 1) cap')) B p (l ++ [Pu.byte n]) := by
    refine ⟨.slice ao' (l.length + 1) cap', ?_, ?_, h3⟩
    · simp [World.setCell, Array.getElem?_modify, hpb]
    · have hbn : ((Pu.byte n).toNat : Int) = n := by
        unfold Pu.byte
        rw [UInt8.toNat_ofNat']
        omega
      have := owns_set hown' hne 0 (.slice ao' (l.length + 1) cap')
      simpa [bv, hbn] using this
  have hb2 := hb1.setCell (p := ⟨p, 0, none⟩) h3 (.slice ao' (l.length + 1) cap')
  have hwf : WF p w (w1.setCell ⟨p, 0, none⟩ (.slice ao' (l.length + 1) cap')) := by
    refine ⟨by have := hgrow.size; simp only [World.size_alloc] at this; simp [World.setCell]; omega, fun k hk hkp hn => ?_⟩
    rw [Below.heap_setCell _ _ _ _ (by exact hkp), hgrow.block k (by simp only [World.size_alloc]; omega) ?_, Below.heap_alloc _ _ _ hk]
    intro e
    rcases h2.2 with ⟨h2, _⟩ | ⟨g, cap', cur, h2, _, hh, _⟩
    · rw [h2] at e; simp [Value.ownBlock] at e
    · rw [h2] at e
      simp only [Value.ownBlock, Option.some.injEq] at e
      rw [← e] at hh
      exact hn _ _ hh
  clear hgrow hown' h2 h1 c0 hpb hb1 hne
  go_wp2
  go_end0
  exact ⟨rfl, W, hb2, hwf⟩

set_option maxHeartbeats 1000000 in
theorem wlist_any (l : List Int) (v : Value) (B p : Nat) (acc : List UInt8) (w : World) (h : Wr w B p acc) (hv : IntsR w B v l) (hacc : acc.length ≤ 100000) (hll : l.length ≤ 255) (hl : ∀ x ∈ l, 0 ≤ x ∧ x ≤ 255) :
    Calls Try.prog 102 #[.pointer (some ⟨p, 0, none⟩), v] w fun e w' => e = .returned (.tuple #[]) ∧ Wr w' B p (acc ++ Pu.wList l) ∧ Below B w w' ∧ WF p w w' := by
  obtain ⟨ao, cap, b, off, rfl, h1, h2⟩ := hv
  have H1 : Hid _ := h1
  have H2 : Hid _ := h2
  have HL : Hid _ := hl
  clear h1 h2 hl
  go_enter Try.func102, Try.ntmps102
  go_wp2_with fail
  refine (wnumber_any l.length B p acc _ h (by omega) (by omega) (by omega)).mono ?_
  rintro e w1 ⟨rfl, hw1, hb1, hf1⟩
  go_wp2
  go_loopw [4] (fun i wr => ∃ k : Nat, k ≤ l.length ∧ i = .int .i64 k ∧ Wr wr B p (acc ++ Pu.byte l.length :: (l.take k).map Pu.byte) ∧ Below B w wr ∧ WF p w wr) (fun i _ => l.length - (intOf i).toNat)
  case atStart => exact ⟨0, Nat.zero_le _, rfl, hw1, hb1, hf1⟩
  case round =>
    obtain ⟨k, hk, rfl, hw, hb, hf⟩ := hrel
    clear hw1 hb1 hf1
    by_cases hlt : k < l.length
    · obtain ⟨rfl, hbB⟩ := H1.out (by omega)
      have hc := (hb.cell (p := ⟨b, off + k, none⟩) hbB).trans (H2.out k hlt)
      have hxm := HL.out (l.getD k 0) (by rw [List.getD_eq_getElem?_getD, List.getElem?_eq_getElem hlt]; exact List.getElem_mem hlt)
      have HT : Hid ((l.take (k + 1)).map Pu.byte = (l.take k).map Pu.byte ++ [Pu.byte (l.getD k 0)]) := by
        show _ = _
        rw [List.take_succ_eq_append_getElem hlt, List.map_append, List.getD_eq_getElem?_getD, List.getElem?_eq_getElem hlt]
        rfl
      generalize l.getD k 0 = x at *
      go_wp2_with fail
      refine (wnumber_any x B p _ _ hw (by simp; omega) hxm.1 hxm.2).mono ?_
      rintro e w2 ⟨rfl, hw2, hb2, hf2⟩
      have hb3 := hb.trans hb2
      have hf3 := hf.trans hf2
      clear hc hxm hw hb hb2 hf hf2
      go_wp2
      go_roundw
      case rel => exact ⟨k + 1, hlt, by go_num, by rw [HT.out]; simpa using hw2, hb3, hf3⟩
      case measure => simp [intOf]; omega
    · go_wp2
      go_end0
      refine ⟨rfl, ?_, hb, hf⟩
      rw [List.take_of_length_le (by omega)] at hw
      exact hw
end Go.Proofs.Ytjamgmbdilkbcaa
