/- lend. -/
import Derived.Test.YtjamgmbdilkbcaaLent3
namespace Go.Proofs.Ytjamgmbdilkbcaa
open Go.RowKit

section
variable {w w' : World} {B px : Nat} {x0 x1 vi vc vf : Value} {R : List (Nat × List Int)} {C : List (Nat × List (Int × Int))}
/-- other blocks stay as they are when a list of numbers is lent. -/
theorem LS.keepI (s : LS w B px x0 x1 vi vc vf R C) (hf : Fr w w' (fun k => k = px ∨ vi.ownBlock = some k)) {g : Nat} {c : Array Value} {t : TypeId} (hg : w.heap[g]? = some (.cells c t (0, 0))) (h1 : t ≠ 92) (h2 : t ≠ 30) (h3 : t ≠ 76) : w'.heap[g]? = w.heap[g]? := by
  have ha := s.apart hg h1 h2 h3
  exact hf.block g (Array.getElem?_eq_some_iff.1 hg).1 (fun h => by rcases h with h | h; exact ha.1 h; exact ha.2.1 h)
theorem LS.keepC (s : LS w B px x0 x1 vi vc vf R C) (hf : Fr w w' (fun k => k = px ∨ vc.ownBlock = some k)) {g : Nat} {c : Array Value} {t : TypeId} (hg : w.heap[g]? = some (.cells c t (0, 0))) (h1 : t ≠ 92) (h2 : t ≠ 30) (h3 : t ≠ 76) : w'.heap[g]? = w.heap[g]? := by
  have ha := s.apart hg h1 h2 h3
  exact hf.block g (Array.getElem?_eq_some_iff.1 hg).1 (fun h => by rcases h with h | h; exact ha.1 h; exact ha.2.2 h)
theorem LS.belowI (s : LS w B px x0 x1 vi vc vf R C) (hf : Fr w w' (fun k => k = px ∨ vi.ownBlock = some k)) (hB : B ≤ w.heap.size) : Below B w w' :=
  hf.below (fun k h => by rcases h with h | h; rw [h]; exact s.hB; exact (s.oi.lt k h).1) hB
theorem LS.belowC (s : LS w B px x0 x1 vi vc vf R C) (hf : Fr w w' (fun k => k = px ∨ vc.ownBlock = some k)) (hB : B ≤ w.heap.size) : Below B w w' :=
  hf.below (fun k h => by rcases h with h | h; rw [h]; exact s.hB; exact (s.oc.lt k h).1) hB
end

section
variable {w w' : World} {q : Nat} {t : TypeId} {x0 x1 x2 x3 x4 : Value}
theorem F5.set0 (h : F5 w q t x0 x1 x2 x3 x4) (v : Value) : F5 (w.setCell ⟨q, 0, none⟩ v) q t v x1 x2 x3 x4 := by unfold F5 at h ⊢; simp [World.setCell, Array.getElem?_modify, h]
theorem F5.set1 (h : F5 w q t x0 x1 x2 x3 x4) (v : Value) : F5 (w.setCell ⟨q, 1, none⟩ v) q t x0 v x2 x3 x4 := by unfold F5 at h ⊢; simp [World.setCell, Array.getElem?_modify, h]
theorem F5.set4 (h : F5 w q t x0 x1 x2 x3 x4) (v : Value) : F5 (w.setCell ⟨q, 4, none⟩ v) q t x0 x1 x2 x3 v := by unfold F5 at h ⊢; simp [World.setCell, Array.getElem?_modify, h]
end

section
variable {w w' : World} {B px : Nat} {x0 x1 x0' x1' vi vc vf vf' : Value} {R : List (Nat × List Int)} {C : List (Nat × List (Int × Int))}
/-- only blocks of other types, or Lent's own, are turned. -/
theorem LS.move (s : LS w B px x0 x1 vi vc vf R C) (hn : F5 w' px 92 x0' x1' vi vc vf') (hb : ∀ g c t, w.heap[g]? = some (.cells c t (0, 0)) → (t = 30 ∨ t = 76 ∨ ∃ r, (r ∈ R.map (·.1) ∨ r ∈ C.map (·.1)) ∧ r = g) → w'.heap[g]? = w.heap[g]?) : LS w' B px x0' x1' vi vc vf' R C := by
  refine ⟨hn, s.hB, owns_block s.oi (fun k hk => ?_), owns_block s.oc (fun k hk => ?_), fun r hr => ?_, fun r hr => ?_, s.ni, s.nc⟩
  · obtain ⟨c, hc⟩ := owns_ty s.oi hk
    exact hb k c _ hc (.inl rfl)
  · obtain ⟨c, hc⟩ := owns_ty s.oc hk
    exact hb k c _ hc (.inr (.inl rfl))
  · obtain ⟨h1, h2⟩ := s.ri r hr
    obtain ⟨c, hc⟩ := h1.ty
    exact ⟨h1.at (hb r.1 c _ hc (.inr (.inr ⟨r.1, .inl (List.mem_map.2 ⟨r, hr, rfl⟩), rfl⟩))), h2⟩
  · obtain ⟨h1, h2⟩ := s.rc r hr
    obtain ⟨c, hc⟩ := h1.ty
    exact ⟨h1.at (hb r.1 c _ hc (.inr (.inr ⟨r.1, .inr (List.mem_map.2 ⟨r, hr, rfl⟩), rfl⟩))), h2⟩
theorem LS.grown (s : LS w B px x0 x1 vi vc vf R C) (hg : w.grownBy w' none) : LS w' B px x0 x1 vi vc vf R C :=
  s.move (s.h.kept hg (by simp)) (fun g c t hc _ => hg.block g (Array.getElem?_eq_some_iff.1 hc).1 (by simp))
theorem LS.set (s : LS w B px x0 x1 vi vc vf R C) (i : Nat) (v : Value) (hn : F5 (w.setCell ⟨px, i, none⟩ v) px 92 x0' x1' vi vc vf') : LS (w.setCell ⟨px, i, none⟩ v) B px x0' x1' vi vc vf' R C := by
  refine s.move hn (fun g c t hc ht => (grown_set w px i v).block g (Array.getElem?_eq_some_iff.1 hc).1 ?_)
  intro e
  simp only [Option.some.injEq] at e
  subst e
  have h5 := s.h
  unfold F5 at h5
  rw [h5] at hc
  simp only [Option.some.injEq, Obj.cells.injEq] at hc
  rcases ht with ht | ht | ⟨r, hr, hrp⟩
  · rw [ht] at hc; exact absurd hc.2.1 (by decide)
  · rw [ht] at hc; exact absurd hc.2.1 (by decide)
  · subst hrp
    rcases hr with hr | hr
    · obtain ⟨a, ha, he⟩ := List.mem_map.1 hr
      obtain ⟨c', hc'⟩ := (s.ri a ha).1.ty
      rw [he, h5] at hc'
      simp at hc'
    · obtain ⟨a, ha, he⟩ := List.mem_map.1 hr
      obtain ⟨c', hc'⟩ := (s.rc a ha).1.ty
      rw [he, h5] at hc'
      simp at hc'
/-- a block of functions is turned. -/
theorem LS.row (s : LS w B px x0 x1 vi vc vf R C) {g : Nat} {c : Array Value} (hg : w.heap[g]? = some (.cells c 86 (0, 0))) (hgr : w.grownBy w' (some g)) : LS w' B px x0 x1 vi vc vf R C := by
  have ha := s.apart hg (by decide) (by decide) (by decide)
  refine s.move (s.h.kept hgr (by simp; exact fun e => ha.1 e.symm)) (fun k c' t hc ht => hgr.block k (Array.getElem?_eq_some_iff.1 hc).1 ?_)
  intro e
  simp only [Option.some.injEq] at e
  subst e
  rw [hg] at hc
  simp only [Option.some.injEq, Obj.cells.injEq] at hc
  rcases ht with ht | ht | ⟨r, hr, hrp⟩
  · rw [ht] at hc; exact absurd hc.2.1 (by decide)
  · rw [ht] at hc; exact absurd hc.2.1 (by decide)
  · subst hrp
    rcases hr with hr | hr
    · obtain ⟨a, haa, he⟩ := List.mem_map.1 hr
      obtain ⟨c', hc'⟩ := (s.ri a haa).1.ty
      rw [he, hg] at hc'
      simp at hc'
    · obtain ⟨a, haa, he⟩ := List.mem_map.1 hr
      obtain ⟨c', hc'⟩ := (s.rc a haa).1.ty
      rw [he, hg] at hc'
      simp at hc'
end

/-- the lists of numbers, of instructions of functions that are lent. -/
def Rof : List Pu.Fn → List (Nat × Nat × Nat × Nat) → List (Nat × List Int)
  | f :: fs, d :: ds => (d.1, f.params) :: (d.2.1, f.results) :: (d.2.2.1, f.locals) :: Rof fs ds
  | _, _ => []
def Cof : List Pu.Fn → List (Nat × Nat × Nat × Nat) → List (Nat × List (Int × Int))
  | f :: fs, d :: ds => (d.2.2.2, f.code) :: Cof fs ds
  | _, _ => []
def front (g n : Nat) : Value := .slice (some ⟨g, 0, none⟩) n (n + 2)
def lfv (f : Pu.Fn) (d : Nat × Nat × Nat × Nat) : FV := ⟨front d.1 f.params.length, front d.2.1 f.results.length, front d.2.2.1 f.locals.length, front d.2.2.2 f.code.length⟩
def lfvs : List Pu.Fn → List (Nat × Nat × Nat × Nat) → List FV
  | f :: fs, d :: ds => lfv f d :: lfvs fs ds
  | _, _ => []

theorem Rof_snoc (f : Pu.Fn) (d : Nat × Nat × Nat × Nat) : ∀ (fs : List Pu.Fn) (ds : List (Nat × Nat × Nat × Nat)), fs.length = ds.length → Rof (fs ++ [f]) (ds ++ [d]) = Rof fs ds ++ [(d.1, f.params)] ++ [(d.2.1, f.results)] ++ [(d.2.2.1, f.locals)]
  | [], [], _ => rfl
  | g :: fs, e :: ds, h => by simp only [List.cons_append, Rof]; rw [Rof_snoc f d fs ds (by simpa using h)]
  | [], _ :: _, h => by simp at h
  | _ :: _, [], h => by simp at h
theorem Cof_snoc (f : Pu.Fn) (d : Nat × Nat × Nat × Nat) : ∀ (fs : List Pu.Fn) (ds : List (Nat × Nat × Nat × Nat)), fs.length = ds.length → Cof (fs ++ [f]) (ds ++ [d]) = Cof fs ds ++ [(d.2.2.2, f.code)]
  | [], [], _ => rfl
  | g :: fs, e :: ds, h => by simp only [List.cons_append, Cof]; rw [Cof_snoc f d fs ds (by simpa using h)]
  | [], _ :: _, h => by simp at h
  | _ :: _, [], h => by simp at h
theorem lfvs_snoc (f : Pu.Fn) (d : Nat × Nat × Nat × Nat) : ∀ (fs : List Pu.Fn) (ds : List (Nat × Nat × Nat × Nat)), fs.length = ds.length → lfvs (fs ++ [f]) (ds ++ [d]) = lfvs fs ds ++ [lfv f d]
  | [], [], _ => rfl
  | g :: fs, e :: ds, h => by simp only [List.cons_append, lfvs]; rw [lfvs_snoc f d fs ds (by simpa using h)]
  | [], _ :: _, h => by simp at h
  | _ :: _, [], h => by simp at h
theorem lfvs_len : ∀ (fs : List Pu.Fn) (ds : List (Nat × Nat × Nat × Nat)), fs.length = ds.length → (lfvs fs ds).length = fs.length
  | [], [], _ => rfl
  | g :: fs, e :: ds, h => by simp only [lfvs, List.length_cons]; rw [lfvs_len fs ds (by simpa using h)]
  | [], _ :: _, h => by simp at h
  | _ :: _, [], h => by simp at h
end Go.Proofs.Ytjamgmbdilkbcaa
