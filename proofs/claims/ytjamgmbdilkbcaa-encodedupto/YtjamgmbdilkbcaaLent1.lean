/- Lent.numbers. -/
import Derived.Test.YtjamgmbdilkbcaaLent0
namespace Go.Proofs.Ytjamgmbdilkbcaa
open Go.RowKit

theorem Try.info30 : (Try.prog.info? 30).map (fun i => (i.zero, i.size, i.bytes)) = some (some (.slice none 0 0), 1, 24) := by kernel_rfl

/-- a block of five cells. -/
def F5 (w : World) (q : Nat) (t : TypeId) (x0 x1 x2 x3 x4 : Value) : Prop := w.heap[q]? = some (.cells #[x0, x1, x2, x3, x4] t (0, 0))
section
variable {w w' : World} {q : Nat} {t : TypeId} {x0 x1 x2 x3 x4 : Value}
theorem F5.lt (h : F5 w q t x0 x1 x2 x3 x4) : q < w.heap.size := (Array.getElem?_eq_some_iff.1 h).1
theorem F5.kept (h : F5 w q t x0 x1 x2 x3 x4) {r : Option Nat} (hg : w.grownBy w' r) (hr : some q ≠ r) : F5 w' q t x0 x1 x2 x3 x4 := (hg.block q h.lt hr).trans h
theorem F5.c0 (h : F5 w q t x0 x1 x2 x3 x4) : w.cell? ⟨q, 0, none⟩ = some x0 := by unfold F5 at h; simp [World.cell?, h]
theorem F5.c1 (h : F5 w q t x0 x1 x2 x3 x4) : w.cell? ⟨q, 1, none⟩ = some x1 := by unfold F5 at h; simp [World.cell?, h]
theorem F5.c2 (h : F5 w q t x0 x1 x2 x3 x4) : w.cell? ⟨q, 2, none⟩ = some x2 := by unfold F5 at h; simp [World.cell?, h]
theorem F5.c3 (h : F5 w q t x0 x1 x2 x3 x4) : w.cell? ⟨q, 3, none⟩ = some x3 := by unfold F5 at h; simp [World.cell?, h]
theorem F5.c4 (h : F5 w q t x0 x1 x2 x3 x4) : w.cell? ⟨q, 4, none⟩ = some x4 := by unfold F5 at h; simp [World.cell?, h]
theorem F5.fz (h : F5 w q t x0 x1 x2 x3 x4) (i : Nat) : w.frozen? ⟨q, i, none⟩ = false := by unfold F5 at h; simp [World.frozen?, h]
theorem F5.set2 (h : F5 w q t x0 x1 x2 x3 x4) (v : Value) : F5 (w.setCell ⟨q, 2, none⟩ v) q t x0 x1 v x3 x4 := by unfold F5 at h ⊢; simp [World.setCell, Array.getElem?_modify, h]
end

/-- the caller's number. -/
abbrev ink : Int := 1099511627783

/-- a list that is lent: block g holds l and two inks. -/
def LentI (w : World) (g : Nat) (l : List Int) : Prop := w.ownsRow g 3 1 (.slice (some ⟨g, 0, none⟩) (l.length + 2) (l.length + 2)) (l.length + 2) (l.map (Value.int .i64) ++ [.int .i64 ink, .int .i64 ink])

/-- what numbers gives. -/
def NumOut (w w' : World) (B px n : Nat) (l : List Int) (x0 x1 x3 x4 vi : Value) (rs : List Value) (e : Ending) : Prop :=
  ∃ g vi', e = .returned (.slice (some ⟨g, 0, none⟩) l.length (l.length + 2)) ∧ g = w.heap.size ∧ LentI w' g l ∧ F5 w' px 92 x0 x1 vi' x3 x4 ∧
    w'.ownsRow B 30 1 vi' (n + 1) (rs ++ [.slice (some ⟨g, 0, none⟩) (l.length + 2) (l.length + 2)]) ∧ (∀ j, vi'.ownBlock = some j → vi.ownBlock = some j ∨ w.heap.size < j) ∧
    Fr w w' (fun k => k = px ∨ vi.ownBlock = some k)

/-- the row while the ink is laid. -/
def inked (l : List Int) (rest : List Value) (k : Nat) : List Value := l.map (Value.int .i64) ++ (List.replicate k (.int .i64 ink) ++ rest.drop k)

theorem inked_set (l : List Int) (rest : List Value) (k : Nat) (h : k < rest.length) : (inked l rest k).set (l.length + k) (.int .i64 ink) = inked l rest (k + 1) := by
  unfold inked
  rw [List.set_append, if_neg (by simp), List.length_map, Nat.add_sub_cancel_left, List.set_append, if_neg (by simp), List.length_replicate, Nat.sub_self, List.drop_eq_getElem_cons h, List.set_cons_zero, List.replicate_succ', List.append_assoc]
  rfl
theorem inked_len (l : List Int) (rest : List Value) (k : Nat) (h : rest.length = 2) (hk : k ≤ 2) : (inked l rest k).length = l.length + 2 := by
  simp [inked, h]; omega

set_option maxRecDepth 100000 in
set_option maxHeartbeats 1000000 in
theorem numbers_any (B px n : Nat) (l : List Int) (v x0 x1 x3 x4 vi : Value) (rs : List Value) (w : World)
    (h : F5 w px 92 x0 x1 vi x3 x4) (ho : w.ownsRow B 30 1 vi n rs) (hB : B ≤ px) (hv : IntsR w w.heap.size v l) (hl : l.length ≤ 1500000) (hn : n ≤ 10000000) :
    Calls Try.prog 70 #[.pointer (some ⟨px, 0, none⟩), v] w fun e w' => NumOut w w' B px n l x0 x1 x3 x4 vi rs e := by
  obtain ⟨i0, hi0, hz0, hz1, hz2⟩ := info_parts Try.info3
  obtain ⟨j0, hj0, hy0, hy1, hy2⟩ := info_parts Try.info30
  obtain ⟨ao, cap, b, off, rfl, h1, h2⟩ := hv
  have hpx : px < w.heap.size := h.lt
  obtain ⟨cur, hcur⟩ : ∃ cur : List Value, cur = (madeCells (Value.int .i64 0).cells (l.length + 2)).toList := ⟨_, rfl⟩
  have hcl : cur.length = l.length + 2 := by rw [hcur]; simp [size_madeCells]
  obtain ⟨W1, hW1⟩ : ∃ W1, W1 = w.alloc (.cells cur.toArray 3) := ⟨_, rfl⟩
  have hmk : (Instr.makeSlice 30 (.int .i64 ((l.length : Int) + 2)) (.int .i64 ((l.length : Int) + 2))).run Try.prog w = .ok (.slice (some ⟨w.heap.size, 0, none⟩) (l.length + 2) (l.length + 2)) W1 := by
    have hk := run_make (P := Try.prog) w 30 3 i0 (.int .i64 0) Try.underlying30 hi0 hz0 .i64 .i64 ((l.length : Int) + 2) ((l.length : Int) + 2) (by omega) (by omega) (by rw [hz2]; omega) (by omega)
    have e1 : ((l.length : Int) + 2).toNat = l.length + 2 := by omega
    rw [e1, hz1, Nat.mul_one] at hk
    rw [hk, hW1, hcur]
  have hg1 : W1.heap[w.heap.size]? = some (.cells cur.toArray 3 (0, 0)) := by rw [hW1]; exact heap_alloc_new w _
  have hb1 : Below w.heap.size w W1 := by rw [hW1]; exact (Below.refl _ _).alloc (Nat.le_refl _) _
  obtain ⟨X, hX⟩ : ∃ X : List Value, X = l.map (Value.int .i64) := ⟨_, rfl⟩
  have hXl : X.length = l.length := by rw [hX]; simp
  have hsz1 : (Try.prog.info? 3).map (·.size) = some 1 := by rw [hi0]; simp [hz1]
  obtain ⟨W2, hcp, hg2, hgr2⟩ := copy_made (P := Try.prog) W1 30 3 3 w.heap.size l.length 1 cap ao cur X Try.underlying30 hsz1 hg1 (by omega) (by omega) (by
    intro hp
    obtain ⟨e, hbB⟩ := h1 hp
    refine ⟨_, e, fun j v hj => ?_⟩
    have hjl : j < l.length := by have := (List.getElem?_eq_some_iff.1 hj).1; omega
    have h3 := (hb1.cell (p := ⟨b, off + j, none⟩) hbB).trans (h2 j hjl)
    rw [show (⟨b, off, none⟩ : Addr).add j = ⟨b, off + j, none⟩ from by simp [Addr.add], h3]
    rw [hX] at hj
    simp [List.getElem?_map, List.getElem?_eq_getElem hjl] at hj
    simp [List.getD_eq_getElem?_getD, hjl, hj]) (by
    intro v hv
    rw [hX] at hv
    obtain ⟨x, _, rfl⟩ := List.mem_map.1 hv
    rfl)
  have o2 : W2.ownsRow w.heap.size 3 1 (.slice (some ⟨w.heap.size, 0, none⟩) (l.length + 2) (l.length + 2)) (l.length + 2) (inked l (cur.drop l.length) 0) := by
    refine ⟨by simp [inked]; omega, .inr ⟨w.heap.size, l.length + 2, (X ++ cur.drop (l.length * 1)).toArray, rfl, Nat.le_refl _, hg2, Nat.le_refl _, by unfold maxLen; omega, by simp; omega, ?_⟩⟩
    rw [List.take_of_length_le (by simp; omega)]
    simp [inked, hX]
  have f2 : Fr w W2 (fun k => k = px ∨ vi.ownBlock = some k) := by
    refine (Fr.refl _ _).trans (w1 := w) (Fr.refl w (fun _ => False)) (by simp) |>.trans (Y := fun k => w.heap.size ≤ k) ?_ (fun j hj => .inr hj)
    refine ⟨?_, ?_, ?_, ?_, ?_⟩
    · exact hgr2.os.trans hb1.os
    · exact hgr2.tape.trans hb1.tape
    · exact hgr2.output.trans hb1.output
    · exact Nat.le_trans hb1.size hgr2.size
    · intro k hk hx
      rw [hgr2.block k (Nat.lt_of_lt_of_le hk hb1.size) (by simp; omega), hb1.block k hk]
  have g2 : w.grownBy W2 none := ⟨f2.os, f2.tape, f2.output, f2.size, fun k hk _ => by
    rw [hgr2.block k (Nat.lt_of_lt_of_le hk hb1.size) (by simp; omega), hb1.block k hk]⟩
  have h2' := h.kept g2 (by simp)
  have ho2 : W2.ownsRow B 30 1 vi n rs := ho.kept g2 (by cases vi.ownBlock <;> simp)
  have HRL : Hid ((cur.drop l.length).length = 2) := by show _ = _; simp; omega
  generalize cur.drop l.length = rest at *
  clear h1 h2 hcur hW1 hX hXl hcl hg1 h hg2 hgr2 hb1 ho g2
  go_enter Try.func70, Try.ntmps70
  go_wp2
  clear hmk hcp
  go_loopw [6] (fun i wr => ∃ k : Nat, k ≤ 2 ∧ i = .int .i64 ((l.length + k : Nat) : Int) ∧ wr.ownsRow w.heap.size 3 1 (.slice (some ⟨w.heap.size, 0, none⟩) (l.length + 2) (l.length + 2)) (l.length + 2) (inked l rest k) ∧ F5 wr px 92 x0 x1 vi x3 x4 ∧ wr.ownsRow B 30 1 vi n rs ∧ Fr w wr (fun k => k = px ∨ vi.ownBlock = some k)) (fun i _ => l.length + 2 - (intOf i).toNat)
  case atStart => exact ⟨0, by omega, rfl, o2, h2', ho2, f2⟩
  case round =>
    obtain ⟨k, hk, rfl, o, hp, hov, hf⟩ := hrel
    clear o2 h2' ho2 f2
    have hwz := hf.size
    by_cases hlt : k < 2
    · have hfz := o.frozenAt (l.length + k)
      have hst := o.stored (l.length + k) (.int .i64 ink)
      obtain ⟨u, hu⟩ : ∃ u, wr.cell? ⟨w.heap.size, l.length + k, none⟩ = some u := by
        rw [o.cellAt (l.length + k) (by omega)]
        exact ⟨_, List.getElem?_eq_getElem (by rw [inked_len l rest k HRL.out hk]; omega)⟩
      have o3 := hst.1
      rw [inked_set l rest k (by rw [HRL.out]; exact hlt)] at o3
      have hne : w.heap.size ≠ px := by omega
      have hp3 := hp.kept hst.2 (by simp; omega)
      have hov3 : (wr.setCell ⟨w.heap.size, l.length + k, none⟩ (.int .i64 ink)).ownsRow B 30 1 vi n rs := owns_other hov o hst.2 (by decide)
      have hf3 := hf.grown hst.2 (fun j hj => by simp only [Option.some.injEq] at hj; subst hj; exact .inr (Nat.le_refl _))
      clear hst o hp hov hf
      go_wp2
      go_roundw
      case rel => exact ⟨k + 1, by omega, by go_num, o3, hp3, hov3, hf3⟩
      case measure => simp [intOf]; omega
    · have hk2 : k = 2 := by omega
      subst hk2
      have c2 := hp.c2
      obtain ⟨av, cv, rfl⟩ := owns_shape hov
      have hgl : w.heap.size < wr.heap.size := owns_lt o rfl
      have ga := World.grownBy_alloc wr (.cells #[.slice (some ⟨w.heap.size, 0, none⟩) (l.length + 2) (l.length + 2)] 30) none
      have ova := hov.alloc (.cells #[.slice (some ⟨w.heap.size, 0, none⟩) (l.length + 2) (l.length + 2)] 30)
      have oa := o.alloc (.cells #[.slice (some ⟨w.heap.size, 0, none⟩) (l.length + 2) (l.length + 2)] 30)
      have hpa := hp.kept ga (by simp)
      have hfa := hf.grown ga (by intro k hk; cases hk)
      clear o hp hov hf ga
      go_wp2_with (at_builtin; refine wpList_append_keep rfl _ _ 89 rfl B 30 j0 (.slice none 0 0) 1 24 Try.underlying89 hj0 hy0 hy1 hy2 rfl (by decide) _ _ _ rfl ova ⟨wr.heap.size, 0, none⟩ 1 1 [.slice (some ⟨w.heap.size, 0, none⟩) (l.length + 2) (l.length + 2)] rfl rfl (cell_one_new _ _ _) ?d2 ?d3 ?d4 ?d5 (by decide) ?_)
      case d2 => first | rfl | (intro u hu; simp at hu; subst hu; rfl)
      case d3 => unfold maxLen; omega
      case d4 => omega
      case d5 => first | omega | (simp only [World.size_alloc]; omega)
      intro vi2 w3 hv3 hg3 _ hl3
      obtain ⟨ao2, cap2, rfl⟩ := owns_shape hv3
      have hne3 : some px ≠ (Value.slice av n cv).ownBlock := fun e => by
        obtain ⟨c, hc⟩ := owns_ty ova e.symm
        unfold F5 at hpa
        rw [hpa] at hc
        simp at hc
      have p3 := hpa.kept hg3 hne3
      have o3 := owns_other oa ova hg3 (by decide)
      have f3 := hfa.grown hg3 (fun j hj => .inl (.inr hj))
      have e1 := p3.c2
      have e2 := p3.fz 2
      have p4 := p3.set2 (.slice ao2 (n + 1) cap2)
      have f4 := f3.grown (grown_set w3 px 2 (.slice ao2 (n + 1) cap2)) (fun j hj => by simp only [Option.some.injEq] at hj; subst hj; exact .inl (.inl rfl))
      have o4 := owns_set o3 (q := px) (by simp [Value.ownBlock]; omega) 2 (.slice ao2 (n + 1) cap2)
      have hne4 : (Value.slice ao2 (n + 1) cap2).ownBlock ≠ some px := fun e => by
        obtain ⟨c, hc⟩ := owns_ty hv3 e
        unfold F5 at p3
        rw [p3] at hc
        simp at hc
      have ov4 := owns_set hv3 hne4 2 (.slice ao2 (n + 1) cap2)
      have fin : NumOut w (w3.setCell ⟨px, 2, none⟩ (.slice ao2 (n + 1) cap2)) B px n l x0 x1 x3 x4 (.slice av n cv) rs (.returned (.slice (some ⟨w.heap.size, 0, none⟩) l.length (l.length + 2))) := by
        refine ⟨w.heap.size, _, rfl, rfl, ?_, p4, ov4, ?_, f4⟩
        · unfold LentI
          have := o4
          simp only [inked, List.drop_of_length_le (Nat.le_of_eq HRL.out), List.append_nil] at this
          exact this
        · intro j hj
          rcases hl3 with h | h
          · exact .inl (by rw [← h]; exact hj)
          · rw [h] at hj
            simp only [Option.some.injEq] at hj
            exact .inr (by omega)
      have FIN : Hid _ := fin
      clear fin ova oa hpa hfa hv3 hg3 hl3 p3 o3 f3 p4 f4 o4 ov4 hne3 hne4 c2
      go_wp2
      go_ret
      exact FIN.out
end Go.Proofs.Ytjamgmbdilkbcaa
