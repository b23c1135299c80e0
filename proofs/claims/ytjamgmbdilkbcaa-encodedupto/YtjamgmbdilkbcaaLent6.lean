/- The module that is lent reads as the one it was made of. -/
import Derived.Test.YtjamgmbdilkbcaaLent5
namespace Go.Proofs.Ytjamgmbdilkbcaa
open Go.RowKit

theorem LentI.reads {w : World} {g : Nat} {l : List Int} (h : LentI w g l) : IntsR w w.heap.size (front g l.length) l := by
  refine ⟨some ⟨g, 0, none⟩, l.length + 2, g, 0, rfl, fun _ => ⟨rfl, owns_lt h rfl⟩, fun j hj => ?_⟩
  have hc := World.ownsRow.cellAt h j (by omega)
  rw [List.getElem?_append_left (by simpa using hj)] at hc
  rw [Nat.zero_add, hc]
  simp [List.getD_eq_getElem?_getD, hj]

theorem LentC.reads {w : World} {g : Nat} {l : List (Int × Int)} (h : LentC w g l) : CodeR w w.heap.size (front g l.length) l := by
  refine ⟨some ⟨g, 0, none⟩, l.length + 2, g, 0, rfl, fun _ => ⟨rfl, owns_lt h rfl⟩, fun j hj => ?_⟩
  have hl := cc_len l
  have hg := cc_get l j hj
  have hc := World.ownsRow.cellAt h (j * 2) (by omega)
  have hc' := World.ownsRow.cellAt h (j * 2 + 1) (by omega)
  rw [List.getElem?_append_left (by omega)] at hc hc'
  rw [Nat.zero_add]
  exact ⟨hc.trans hg.1, hc'.trans hg.2⟩

theorem lfvs_get (ms : List FV) : ∀ (fs : List Pu.Fn) (ds : List (Nat × Nat × Nat × Nat)), ds.length = fs.length → ∀ j, j < fs.length → ∃ d, (fc (lfvs fs ds ++ ms))[j * 4]? = some (lfv (fs.getD j ⟨[], [], [], []⟩) d).p ∧ (fc (lfvs fs ds ++ ms))[j * 4 + 1]? = some (lfv (fs.getD j ⟨[], [], [], []⟩) d).r ∧ (fc (lfvs fs ds ++ ms))[j * 4 + 2]? = some (lfv (fs.getD j ⟨[], [], [], []⟩) d).l ∧ (fc (lfvs fs ds ++ ms))[j * 4 + 3]? = some (lfv (fs.getD j ⟨[], [], [], []⟩) d).c ∧
    (d.1, (fs.getD j ⟨[], [], [], []⟩).params) ∈ Rof fs ds ∧ (d.2.1, (fs.getD j ⟨[], [], [], []⟩).results) ∈ Rof fs ds ∧ (d.2.2.1, (fs.getD j ⟨[], [], [], []⟩).locals) ∈ Rof fs ds ∧ (d.2.2.2, (fs.getD j ⟨[], [], [], []⟩).code) ∈ Cof fs ds
  | f :: fs, d :: ds, _, 0, _ => ⟨d, by simp [lfvs, fc_cons, FV.cells], by simp [lfvs, fc_cons, FV.cells], by simp [lfvs, fc_cons, FV.cells], by simp [lfvs, fc_cons, FV.cells], by simp [Rof], by simp [Rof], by simp [Rof], by simp [Cof]⟩
  | f :: fs, d :: ds, h, j + 1, hj => by
    obtain ⟨e, h0, h1, h2, h3, r1, r2, r3, c1⟩ := lfvs_get ms fs ds (by simpa using h) j (by simpa using hj)
    refine ⟨e, ?_, ?_, ?_, ?_, by simpa [Rof] using .inr (.inr (.inr r1)), by simpa [Rof] using .inr (.inr (.inr r2)), by simpa [Rof] using .inr (.inr (.inr r3)), by simpa [Cof] using .inr c1⟩
    · rw [lfvs, List.cons_append, fc_cons, show (j + 1) * 4 = j * 4 + 1 + 1 + 1 + 1 from by omega]; simpa [FV.cells] using h0
    · rw [lfvs, List.cons_append, fc_cons, show (j + 1) * 4 + 1 = j * 4 + 1 + 1 + 1 + 1 + 1 from by omega]; simpa [FV.cells] using h1
    · rw [lfvs, List.cons_append, fc_cons, show (j + 1) * 4 + 2 = j * 4 + 2 + 1 + 1 + 1 + 1 from by omega]; simpa [FV.cells] using h2
    · rw [lfvs, List.cons_append, fc_cons, show (j + 1) * 4 + 3 = j * 4 + 3 + 1 + 1 + 1 + 1 from by omega]; simpa [FV.cells] using h3
  | [], _, _, _, hj => by simp at hj
  | _ :: _, [], h, _, _ => by simp at h

theorem lent_reads {w : World} {B px : Nat} {x0 x1 vi vc vf : Value} {m : Pu.Md} {gk gf : Nat} {D : List (Nat × Nat × Nat × Nat)} {ms : List FV} (s : LS w B px x0 x1 vi vc vf ((gk, m.kinds) :: Rof m.funcs D) (Cof m.funcs D)) (hd : D.length = m.funcs.length)
    (ro : w.ownsRow B 86 4 (sl gf m.funcs.length) (m.funcs.length + 2) (fc (lfvs m.funcs D ++ ms))) (hk : m.kinds.length ≤ maxLen) (hn : m.funcs.length ≤ maxLen) (hs : ∀ f ∈ m.funcs, f.params.length ≤ maxLen ∧ f.results.length ≤ maxLen ∧ f.locals.length ≤ maxLen ∧ f.code.length ≤ maxLen) :
    MdR w w.heap.size (front gk m.kinds.length) (front gf m.funcs.length) m := by
  refine ⟨(s.ri (gk, m.kinds) (by simp)).1.reads, ?_, hk, hn⟩
  refine ⟨some ⟨gf, 0, none⟩, m.funcs.length + 2, gf, 0, rfl, fun _ => ⟨rfl, owns_lt ro rfl⟩, fun j hj => ?_⟩
  obtain ⟨d, h0, h1, h2, h3, r1, r2, r3, c1⟩ := lfvs_get ms m.funcs D hd j hj
  have hmem : m.funcs.getD j ⟨[], [], [], []⟩ ∈ m.funcs := by rw [List.getD_eq_getElem?_getD, List.getElem?_eq_getElem hj]; exact List.getElem_mem hj
  have hsz := hs _ hmem
  rw [Nat.zero_add]
  exact ⟨lfv (m.funcs.getD j ⟨[], [], [], []⟩) d, (ro.cellAt (j * 4) (by omega)).trans h0, (ro.cellAt (j * 4 + 1) (by omega)).trans h1, (ro.cellAt (j * 4 + 2) (by omega)).trans h2, (ro.cellAt (j * 4 + 3) (by omega)).trans h3,
    ⟨(s.ri _ (List.mem_cons_of_mem _ r1)).1.reads, (s.ri _ (List.mem_cons_of_mem _ r2)).1.reads, (s.ri _ (List.mem_cons_of_mem _ r3)).1.reads, (s.rc _ c1).1.reads, hsz.1, hsz.2.1, hsz.2.2.1, hsz.2.2.2⟩⟩
end Go.Proofs.Ytjamgmbdilkbcaa
