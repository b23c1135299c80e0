/- Held.lent: laws. -/
import Derived.Test.YtjamgmbdilkbcaaLent7
namespace Go.Proofs.Ytjamgmbdilkbcaa
open Go.RowKit

theorem kp_fr {w w' : World} {B ph : Nat} {S : Nat → Prop} {v : Value} {T : TypeId} {x0 x1 x2 x3 : Value} (hp : F4 w ph 27 x0 x1 x2 x3) (hf : Fr w w' (Xs w B ph v T)) (hv : ∀ j, v.ownBlock = some j → ¬ S j) (hT : T ≠ 3 ∧ T ≠ 80 ∧ T ≠ 86) : Kp w w' S := by
  refine ⟨hf.size, fun k _ hs hpl => ?_⟩
  obtain ⟨c, t, fr, hc, ht⟩ := hpl
  rw [hc]
  refine block_fr hf hc ?_ (fun e => hv k e hs) ?_
  · intro e
    subst e
    unfold F4 at hp
    rw [hp] at hc
    simp at hc
    rcases ht with ht | ht | ht <;> (rw [ht] at hc; exact absurd hc.2.1 (by decide))
  · rcases ht with h | h | h
    · rw [h]; exact hT.1.symm
    · rw [h]; exact hT.2.1.symm
    · rw [h]; exact hT.2.2.symm

theorem GoodI.front {w : World} {S : Nat → Prop} {g n : Nat} {x : Int} (h : GoodI w S (sl g n) x) : IntsR w w.heap.size (front g n) (List.replicate n x) := by
  obtain ⟨n', h1, _, _⟩ := h
  obtain ⟨ao, cap, he⟩ := owns_shape h1
  unfold sl at he h1
  simp only [Value.slice.injEq] at he
  obtain ⟨_, rfl, _⟩ := he
  have h2 : ints (n + 2) x = ints n x ++ ints 2 x := by unfold ints; rw [List.replicate_append_replicate]
  rw [h2] at h1
  have h3 := owns_front (n := n) (cap := n + 2) h1 (by simp [ints]) (by omega) rfl
  refine owns_ints (B := 0) ?_
  rw [List.length_replicate, List.map_replicate]
  exact h3

theorem GoodC.front {w : World} {S : Nat → Prop} {g n : Nat} {x : Int} (h : GoodC w S (sl g n) x) : CodeR w w.heap.size (front g n) (List.replicate n (x, wrap64 (-x))) := by
  obtain ⟨n', h1, _, _⟩ := h
  obtain ⟨ao, cap, he⟩ := owns_shape h1
  unfold sl at he h1
  simp only [Value.slice.injEq] at he
  obtain ⟨_, rfl, _⟩ := he
  have h2 : insts (n + 2) x (wrap64 (-x)) = insts n x (wrap64 (-x)) ++ insts 2 x (wrap64 (-x)) := by unfold insts cc; rw [← List.flatMap_append, List.replicate_append_replicate]
  rw [h2] at h1
  have h3 := owns_front (n := n) (cap := n + 2) h1 (by rw [insts_len]) (by omega) rfl
  refine owns_code (B := 0) ?_
  rw [List.length_replicate]
  exact h3

theorem Hd.plain {w w' : World} {B ph : Nat} {S : Nat → Prop} {K : Nat} {r : Option Nat} (h : Hd w B ph S K) (hg : w.grownBy w' r) (hr : ∀ k, r = some k → Plain w k ∧ ¬ S k) : Hd w' B ph S K := by
  obtain ⟨N, vi, vc, vf, ei, ec, ef, h, g, k⟩ := h
  exact ⟨N, vi, vc, vf, ei, ec, ef, h.plain hg (fun k hk => (hr k hk).1), g.kept (kp_grown hg (fun k hk hs _ => (hr k hk).2 hs)), k⟩

theorem RO.less {w : World} {B : Nat} {S S' : Nat → Prop} {R : List Row} (h : RO w B S R) (hs : ∀ k, S' k → S k) : RO w B S' R :=
  ⟨h.own, h.ty, fun r hr j hj hS => h.free r hr j hj (hs j hS), h.nd⟩

/-- the last of the lists is appended to. -/
theorem RO.last {w w' : World} {B : Nat} {S : Nat → Prop} {L : List Row} {r r' : Row} (h : RO w B S (L ++ [r])) (hg : w.grownBy w' r.v.ownBlock) (ho : w'.ownsRow B r'.e r'.size r'.v r'.n r'.ys) (he : r'.e = 3 ∨ r'.e = 80 ∨ r'.e = 86)
    (hl : ∀ j, r'.v.ownBlock = some j → r.v.ownBlock = some j ∨ w.heap.size ≤ j) (hS : ∀ j, S j → j < w.heap.size) : RO w' B S (L ++ [r']) := by
  have hnd := h.nd
  rw [List.flatMap_append, List.nodup_append] at hnd
  obtain ⟨n1, _, n3⟩ := hnd
  have ne : ∀ q ∈ L, ∀ j, q.v.ownBlock = some j → r.v.ownBlock ≠ some j := fun q hq j hj h0 =>
    n3 j (List.mem_flatMap.2 ⟨q, hq, by rw [hj]; simp⟩) j (by simp [h0]) rfl
  have lt : ∀ q ∈ L, ∀ j, q.v.ownBlock = some j → j < w.heap.size := fun q hq j hj => owns_lt (h.own q (List.mem_append_left _ hq)) hj
  refine ⟨fun q hq => ?_, fun q hq => ?_, fun q hq j hj => ?_, ?_⟩
  · rcases List.mem_append.1 hq with hq | hq
    · exact owns_block (h.own q (List.mem_append_left _ hq)) (fun k hk => hg.block k (lt q hq k hk) (fun e => ne q hq k hk e.symm))
    · simp only [List.mem_singleton] at hq
      subst hq
      exact ho
  · rcases List.mem_append.1 hq with hq | hq
    · exact h.ty q (List.mem_append_left _ hq)
    · simp only [List.mem_singleton] at hq
      subst hq
      exact he
  · rcases List.mem_append.1 hq with hq | hq
    · exact h.free q (List.mem_append_left _ hq) j hj
    · simp only [List.mem_singleton] at hq
      subst hq
      rcases hl j hj with h' | h'
      · exact h.free r (by simp) j h'
      · intro hs
        have := hS j hs
        omega
  · rw [List.flatMap_append, List.nodup_append]
    refine ⟨n1, ?_, ?_⟩
    · simp only [List.flatMap_cons, List.flatMap_nil, List.append_nil]
      cases r'.v.ownBlock <;> simp
    · intro a ha c hc hac
      subst hac
      obtain ⟨q, hq, hqa⟩ := List.mem_flatMap.1 ha
      simp only [List.flatMap_cons, List.flatMap_nil, List.append_nil] at hc
      have hqa' : q.v.ownBlock = some a := by simpa using hqa
      rcases hl a (by simpa using hc) with h' | h'
      · exact ne q hq a hqa' h'
      · have := lt q hq a hqa'
        omega

def IR (R : List (Nat × List Int)) : List Row := R.map fun r => ⟨3, 1, r.2.length + 2, sl r.1 r.2.length, r.2.map (Value.int .i64) ++ [.int .i64 ink, .int .i64 ink]⟩
def CR (C : List (Nat × List (Int × Int))) : List Row := C.map fun r => ⟨80, 2, r.2.length + 2, sl r.1 r.2.length, cc r.2 ++ insts 2 ink (-ink)⟩

theorem IR_blocks (R : List (Nat × List Int)) : (IR R).flatMap (fun r => r.v.ownBlock.toList) = R.map (·.1) := by
  induction R with
  | nil => rfl
  | cons r R ih => rw [IR, List.map_cons, List.flatMap_cons, ← IR, ih]; rfl
theorem CR_blocks (C : List (Nat × List (Int × Int))) : (CR C).flatMap (fun r => r.v.ownBlock.toList) = C.map (·.1) := by
  induction C with
  | nil => rfl
  | cons r C ih => rw [CR, List.map_cons, List.flatMap_cons, ← CR, ih]; rfl

/-- what lent leans on: K how much is held, L the lists that are not yet held, marks those of the first kI lists of numbers. -/
structure LN (w wr : World) (B ph px K : Nat) (x0 x1 vi vc vf : Value) (R : List (Nat × List Int)) (C : List (Nat × List (Int × Int))) (S : Nat → Prop) (L : List Row) (marks : List Int) (kI : Nat) : Prop where
  hd : Hd wr B ph S K
  p : F5 wr px 92 x0 x1 vi vc vf
  oi : wr.ownsRow B 30 1 vi R.length (R.map fun r => sl r.1 r.2.length)
  oc : wr.ownsRow B 76 1 vc C.length (C.map fun r => sl r.1 r.2.length)
  ro : RO wr B S L
  good : ∀ j r, j < kI → R[j]? = some r → ∃ n, marks[j]? = some n ∧ GoodI wr S (sl r.1 r.2.length) n
  bl : Below B w wr

section
variable {w wr w' : World} {B ph px K : Nat} {x0 x1 vi vc vf : Value} {R : List (Nat × List Int)} {C : List (Nat × List (Int × Int))} {S : Nat → Prop} {L : List Row} {marks : List Int} {kI : Nat}

theorem GoodI.below {w w' : World} {S : Nat → Prop} {v : Value} {x : Int} (h : GoodI w S v x) (hb : Below w.heap.size w w') : GoodI w' S v x := h.kept ⟨hb.size, fun k hk _ _ => hb.block k hk⟩
theorem GoodC.below {w w' : World} {S : Nat → Prop} {v : Value} {x : Int} (h : GoodC w S v x) (hb : Below w.heap.size w w') : GoodC w' S v x := h.kept ⟨hb.size, fun k hk _ _ => hb.block k hk⟩

theorem LN.below (h : LN w wr B ph px K x0 x1 vi vc vf R C S L marks kI) (hb : Below wr.heap.size wr w') (hB : B ≤ wr.heap.size) : LN w w' B ph px K x0 x1 vi vc vf R C S L marks kI :=
  ⟨h.hd.below hb, (hb.block px h.p.lt).trans h.p, owns_below h.oi hb, owns_below h.oc hb, h.ro.below hb, fun j r hj hr => by obtain ⟨n, h1, h2⟩ := h.good j r hj hr; exact ⟨n, h1, h2.below hb⟩, h.bl.trans (hb.mono hB)⟩

/-- a list more is held. -/
theorem LN.hold {r0 : Row} {T : TypeId} (h : LN w wr B ph px K x0 x1 vi vc vf R C S (r0 :: L) marks kI) (hT : (T ≠ 3 ∧ T ≠ 80 ∧ T ≠ 86) ∧ T ≠ 92 ∧ T ≠ 30 ∧ T ≠ 76)
    (hd : Hd w' B ph (S1 wr S r0.v) (K + 4)) (hf : Fr wr w' (Xs wr B ph r0.v T)) (hB : B ≤ wr.heap.size) : LN w w' B ph px (K + 4) x0 x1 vi vc vf R C (S1 wr S r0.v) L marks kI := by
  obtain ⟨y0, y1, y2, y3, hph⟩ := h.hd.held
  have hr0 := h.ro.own r0 (by simp)
  have ht0 := h.ro.ty r0 (by simp)
  have nb : ∀ {k : Nat} {c : Array Value} {t : TypeId}, wr.heap[k]? = some (.cells c t (0, 0)) → t ≠ T → t ≠ 27 → t ≠ 3 → t ≠ 80 → t ≠ 86 → w'.heap[k]? = some (.cells c t (0, 0)) := by
    intro k c t hk h1 h2 h3 h4 h5
    refine block_fr hf hk ?_ ?_ h1
    · intro e
      subst e
      unfold F4 at hph
      rw [hph] at hk
      simp at hk
      exact h2 hk.2.symm
    · intro e
      obtain ⟨c', hc'⟩ := owns_ty hr0 e
      rw [hk] at hc'
      simp at hc'
      rcases ht0 with h | h | h <;> rw [h] at hc'
      · exact h3 hc'.2
      · exact h4 hc'.2
      · exact h5 hc'.2
  have kp := kp_fr hph hf (h.ro.free r0 (by simp)) hT.1
  refine ⟨hd, nb h.p hT.2.1.symm (by decide) (by decide) (by decide) (by decide), owns_block h.oi (fun k hk => ?_), owns_block h.oc (fun k hk => ?_), h.ro.step hph hf hT.1, fun j r hj hr => ?_, h.bl.trans (hf.below (fun k h => xs_ge h) hB)⟩
  · obtain ⟨c, hc⟩ := owns_ty h.oi hk
    rw [hc]
    exact nb hc hT.2.2.1.symm (by decide) (by decide) (by decide) (by decide)
  · obtain ⟨c, hc⟩ := owns_ty h.oc hk
    rw [hc]
    exact nb hc hT.2.2.2.symm (by decide) (by decide) (by decide) (by decide)
  · obtain ⟨n, h1, h2⟩ := h.good j r hj hr
    exact ⟨n, h1, (h2.kept kp).more (fun k hk hs => by by_cases hlt : k < wr.heap.size; exact .inl ⟨hs, hlt⟩; exact .inr (.inr (by omega)))⟩

/-- what is held lies below. -/
theorem LN.narrow (h : LN w wr B ph px K x0 x1 vi vc vf R C S L marks kI) : LN w wr B ph px K x0 x1 vi vc vf R C (fun j => S j ∧ j < wr.heap.size) L marks kI :=
  ⟨h.hd.more (fun _ hk hs => ⟨hs, hk⟩), h.p, h.oi, h.oc, h.ro.less (fun _ hs => hs.1), fun j r hj hr => by obtain ⟨n, h1, h2⟩ := h.good j r hj hr; exact ⟨n, h1, h2.more (fun _ hk hs => ⟨hs, hk⟩)⟩, h.bl⟩

/-- a mark more is written down. -/
theorem LN.mark {r r' : Row} (h : LN w wr B ph px K x0 x1 vi vc vf R C S (L ++ [r]) marks kI) (hS : ∀ j, S j → j < wr.heap.size) (hg : wr.grownBy w' r.v.ownBlock) (ho : w'.ownsRow B r'.e r'.size r'.v r'.n r'.ys) (he : r'.e = 3)
    (hl : ∀ j, r'.v.ownBlock = some j → r.v.ownBlock = some j ∨ wr.heap.size ≤ j) (hB : B ≤ wr.heap.size) : LN w w' B ph px K x0 x1 vi vc vf R C S (L ++ [r']) marks kI := by
  have hr := h.ro.own r (by simp)
  have htr := h.ro.ty r (by simp)
  have nb : ∀ {k : Nat} {c : Array Value} {t : TypeId}, wr.heap[k]? = some (.cells c t (0, 0)) → t ≠ 3 → t ≠ 80 → t ≠ 86 → w'.heap[k]? = wr.heap[k]? := by
    intro k c t hk h3 h4 h5
    refine hg.block k (Array.getElem?_eq_some_iff.1 hk).1 ?_
    intro e
    obtain ⟨c', hc'⟩ := owns_ty hr e.symm
    rw [hk] at hc'
    simp at hc'
    rcases htr with h | h | h <;> rw [h] at hc'
    · exact h3 hc'.2
    · exact h4 hc'.2
    · exact h5 hc'.2
  have hfree := h.ro.free r (by simp)
  refine ⟨h.hd.plain hg (fun k hk => ⟨owns_plain hr hk htr, hfree k hk⟩), (nb h.p (by decide) (by decide) (by decide)).trans h.p, owns_block h.oi (fun k hk => ?_), owns_block h.oc (fun k hk => ?_), h.ro.last hg ho (.inl he) hl hS, fun j q hj hq => ?_, h.bl.grown hg hB (fun k hk => (hr.lt k hk).1)⟩
  · obtain ⟨c, hc⟩ := owns_ty h.oi hk
    exact nb hc (by decide) (by decide) (by decide)
  · obtain ⟨c, hc⟩ := owns_ty h.oc hk
    exact nb hc (by decide) (by decide) (by decide)
  · obtain ⟨n, h1, h2⟩ := h.good j q hj hq
    exact ⟨n, h1, h2.kept (kp_grown hg (fun k hk hs _ => hfree k hk hs))⟩
end

/-- where a function's lists stand among those that are lent. -/
theorem lfvs_at (ms : List FV) : ∀ (fs : List Pu.Fn) (ds : List (Nat × Nat × Nat × Nat)), ds.length = fs.length → ∀ j, j < fs.length → ∃ d, (fc (lfvs fs ds ++ ms))[j * 4]? = some (lfv (fs.getD j ⟨[], [], [], []⟩) d).p ∧ (fc (lfvs fs ds ++ ms))[j * 4 + 1]? = some (lfv (fs.getD j ⟨[], [], [], []⟩) d).r ∧ (fc (lfvs fs ds ++ ms))[j * 4 + 2]? = some (lfv (fs.getD j ⟨[], [], [], []⟩) d).l ∧ (fc (lfvs fs ds ++ ms))[j * 4 + 3]? = some (lfv (fs.getD j ⟨[], [], [], []⟩) d).c ∧
    (Rof fs ds)[j * 3]? = some (d.1, (fs.getD j ⟨[], [], [], []⟩).params) ∧ (Rof fs ds)[j * 3 + 1]? = some (d.2.1, (fs.getD j ⟨[], [], [], []⟩).results) ∧ (Rof fs ds)[j * 3 + 2]? = some (d.2.2.1, (fs.getD j ⟨[], [], [], []⟩).locals) ∧ (Cof fs ds)[j]? = some (d.2.2.2, (fs.getD j ⟨[], [], [], []⟩).code)
  | f :: fs, d :: ds, _, 0, _ => ⟨d, by simp [lfvs, fc_cons, FV.cells], by simp [lfvs, fc_cons, FV.cells], by simp [lfvs, fc_cons, FV.cells], by simp [lfvs, fc_cons, FV.cells], by simp [Rof], by simp [Rof], by simp [Rof], by simp [Cof]⟩
  | f :: fs, d :: ds, h, j + 1, hj => by
    obtain ⟨e, h0, h1, h2, h3, r1, r2, r3, c1⟩ := lfvs_at ms fs ds (by simpa using h) j (by simpa using hj)
    refine ⟨e, ?_, ?_, ?_, ?_, ?_, ?_, ?_, by simpa [Cof] using c1⟩
    · rw [lfvs, List.cons_append, fc_cons, show (j + 1) * 4 = j * 4 + 1 + 1 + 1 + 1 from by omega]; simpa [FV.cells] using h0
    · rw [lfvs, List.cons_append, fc_cons, show (j + 1) * 4 + 1 = j * 4 + 1 + 1 + 1 + 1 + 1 from by omega]; simpa [FV.cells] using h1
    · rw [lfvs, List.cons_append, fc_cons, show (j + 1) * 4 + 2 = j * 4 + 2 + 1 + 1 + 1 + 1 from by omega]; simpa [FV.cells] using h2
    · rw [lfvs, List.cons_append, fc_cons, show (j + 1) * 4 + 3 = j * 4 + 3 + 1 + 1 + 1 + 1 from by omega]; simpa [FV.cells] using h3
    · rw [Rof, show (j + 1) * 3 = j * 3 + 1 + 1 + 1 from by omega]; simpa using r1
    · rw [Rof, show (j + 1) * 3 + 1 = j * 3 + 1 + 1 + 1 + 1 from by omega]; simpa using r2
    · rw [Rof, show (j + 1) * 3 + 2 = j * 3 + 2 + 1 + 1 + 1 from by omega]; simpa using r3
  | [], _, _, _, hj => by simp at hj
  | _ :: _, [], h, _, _ => by simp at h
end Go.Proofs.Ytjamgmbdilkbcaa
