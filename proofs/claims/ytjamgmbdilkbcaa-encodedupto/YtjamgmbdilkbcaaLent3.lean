/- What is lent. -/
import Derived.Test.YtjamgmbdilkbcaaLent2
namespace Go.Proofs.Ytjamgmbdilkbcaa
open Go.RowKit

def sl (g n : Nat) : Value := .slice (some ⟨g, 0, none⟩) (n + 2) (n + 2)

/-- what is lent so far: R the lists of numbers, C the lists of instructions. -/
structure LS (w : World) (B px : Nat) (x0 x1 vi vc vf : Value) (R : List (Nat × List Int)) (C : List (Nat × List (Int × Int))) : Prop where
  h : F5 w px 92 x0 x1 vi vc vf
  hB : B ≤ px
  oi : w.ownsRow B 30 1 vi R.length (R.map fun r => sl r.1 r.2.length)
  oc : w.ownsRow B 76 1 vc C.length (C.map fun r => sl r.1 r.2.length)
  ri : ∀ r ∈ R, LentI w r.1 r.2 ∧ B ≤ r.1
  rc : ∀ r ∈ C, LentC w r.1 r.2 ∧ B ≤ r.1
  ni : (R.map (·.1)).Nodup
  nc : (C.map (·.1)).Nodup

theorem LentI.ty {w : World} {g : Nat} {l : List Int} (h : LentI w g l) : ∃ c, w.heap[g]? = some (.cells c 3 (0, 0)) := owns_ty h rfl
theorem LentC.ty {w : World} {g : Nat} {l : List (Int × Int)} (h : LentC w g l) : ∃ c, w.heap[g]? = some (.cells c 80 (0, 0)) := owns_ty h rfl
theorem LentI.at {w w' : World} {g : Nat} {l : List Int} (h : LentI w g l) (hb : w'.heap[g]? = w.heap[g]?) : LentI w' g l := owns_block h (fun k hk => by
  simp only [Value.ownBlock, Option.some.injEq] at hk
  subst hk
  exact hb)
theorem LentC.at {w w' : World} {g : Nat} {l : List (Int × Int)} (h : LentC w g l) (hb : w'.heap[g]? = w.heap[g]?) : LentC w' g l := owns_block h (fun k hk => by
  simp only [Value.ownBlock, Option.some.injEq] at hk
  subst hk
  exact hb)

section
variable {w w' : World} {B px : Nat} {x0 x1 vi vc vf : Value} {R : List (Nat × List Int)} {C : List (Nat × List (Int × Int))}

/-- a block of the type t is neither Lent's own nor that of a row of lists. -/
theorem LS.apart (s : LS w B px x0 x1 vi vc vf R C) {g : Nat} {c : Array Value} {t : TypeId} (hg : w.heap[g]? = some (.cells c t (0, 0))) (h1 : t ≠ 92) (h2 : t ≠ 30) (h3 : t ≠ 76) :
    g ≠ px ∧ vi.ownBlock ≠ some g ∧ vc.ownBlock ≠ some g := by
  refine ⟨fun e => ?_, fun e => ?_, fun e => ?_⟩
  · subst e
    have := s.h
    unfold F5 at this
    rw [this] at hg
    simp at hg
    exact h1 hg.2.symm
  · obtain ⟨c', hc'⟩ := owns_ty s.oi e
    rw [hg] at hc'
    simp at hc'
    exact h2 hc'.2
  · obtain ⟨c', hc'⟩ := owns_ty s.oc e
    rw [hg] at hc'
    simp at hc'
    exact h3 hc'.2

theorem LS.numbers (s : LS w B px x0 x1 vi vc vf R C) (hBw : B ≤ w.heap.size) {l : List Int} {e : Ending} (o : NumOut w w' B px R.length l x0 x1 vc vf vi (R.map fun r => sl r.1 r.2.length) e) :
    ∃ vi', e = .returned (.slice (some ⟨w.heap.size, 0, none⟩) l.length (l.length + 2)) ∧ LS w' B px x0 x1 vi' vc vf (R ++ [(w.heap.size, l)]) C ∧ Fr w w' (fun k => k = px ∨ vi.ownBlock = some k) := by
  obtain ⟨g, vi', he, rfl, hl, hp, ho, _, hf⟩ := o
  refine ⟨vi', he, ⟨hp, s.hB, ?_, ?_, ?_, ?_, ?_, s.nc⟩, hf⟩
  · rw [List.length_append, List.map_append]
    exact ho
  · refine owns_block s.oc (fun k hk => hf.block k (owns_lt s.oc hk) ?_)
    obtain ⟨c, hc⟩ := owns_ty s.oc hk
    rintro (h | h)
    · subst h
      have := s.h
      unfold F5 at this
      rw [this] at hc
      simp at hc
    · obtain ⟨c', hc'⟩ := owns_ty s.oi h
      rw [hc] at hc'
      simp at hc'
  · intro r hr
    rcases List.mem_append.1 hr with hr | hr
    · obtain ⟨h1, h2⟩ := s.ri r hr
      obtain ⟨c, hc⟩ := h1.ty
      have ha := s.apart hc (by decide) (by decide) (by decide)
      exact ⟨h1.at (hf.block r.1 (Array.getElem?_eq_some_iff.1 hc).1 (fun h => by rcases h with h | h; exact ha.1 h; exact ha.2.1 h)), h2⟩
    · simp only [List.mem_singleton] at hr
      subst hr
      exact ⟨hl, hBw⟩
  · intro r hr
    obtain ⟨h1, h2⟩ := s.rc r hr
    obtain ⟨c, hc⟩ := h1.ty
    have ha := s.apart hc (by decide) (by decide) (by decide)
    exact ⟨h1.at (hf.block r.1 (Array.getElem?_eq_some_iff.1 hc).1 (fun h => by rcases h with h | h; exact ha.1 h; exact ha.2.1 h)), h2⟩
  · rw [List.map_append, List.nodup_append]
    refine ⟨s.ni, by simp, ?_⟩
    intro a ha c hc hac
    obtain ⟨r, hr, rfl⟩ := List.mem_map.1 ha
    obtain ⟨c', hc'⟩ := (s.ri r hr).1.ty
    have := (Array.getElem?_eq_some_iff.1 hc').1
    simp only [List.map_cons, List.map_nil, List.mem_singleton] at hc
    omega

theorem LS.code (s : LS w B px x0 x1 vi vc vf R C) (hBw : B ≤ w.heap.size) {l : List (Int × Int)} {e : Ending} (o : CodeOut w w' B px C.length l x0 x1 vi vf vc (C.map fun r => sl r.1 r.2.length) e) :
    ∃ vc', e = .returned (.slice (some ⟨w.heap.size, 0, none⟩) l.length (l.length + 2)) ∧ LS w' B px x0 x1 vi vc' vf R (C ++ [(w.heap.size, l)]) ∧ Fr w w' (fun k => k = px ∨ vc.ownBlock = some k) := by
  obtain ⟨g, vc', he, rfl, hl, hp, ho, _, hf⟩ := o
  refine ⟨vc', he, ⟨hp, s.hB, ?_, ?_, ?_, ?_, s.ni, ?_⟩, hf⟩
  · refine owns_block s.oi (fun k hk => hf.block k (owns_lt s.oi hk) ?_)
    obtain ⟨c, hc⟩ := owns_ty s.oi hk
    rintro (h | h)
    · subst h
      have := s.h
      unfold F5 at this
      rw [this] at hc
      simp at hc
    · obtain ⟨c', hc'⟩ := owns_ty s.oc h
      rw [hc] at hc'
      simp at hc'
  · rw [List.length_append, List.map_append]
    exact ho
  · intro r hr
    obtain ⟨h1, h2⟩ := s.ri r hr
    obtain ⟨c, hc⟩ := h1.ty
    have ha := s.apart hc (by decide) (by decide) (by decide)
    exact ⟨h1.at (hf.block r.1 (Array.getElem?_eq_some_iff.1 hc).1 (fun h => by rcases h with h | h; exact ha.1 h; exact ha.2.2 h)), h2⟩
  · intro r hr
    rcases List.mem_append.1 hr with hr | hr
    · obtain ⟨h1, h2⟩ := s.rc r hr
      obtain ⟨c, hc⟩ := h1.ty
      have ha := s.apart hc (by decide) (by decide) (by decide)
      exact ⟨h1.at (hf.block r.1 (Array.getElem?_eq_some_iff.1 hc).1 (fun h => by rcases h with h | h; exact ha.1 h; exact ha.2.2 h)), h2⟩
    · simp only [List.mem_singleton] at hr
      subst hr
      exact ⟨hl, hBw⟩
  · rw [List.map_append, List.nodup_append]
    refine ⟨s.nc, by simp, ?_⟩
    intro a ha c hc hac
    obtain ⟨r, hr, rfl⟩ := List.mem_map.1 ha
    obtain ⟨c', hc'⟩ := (s.rc r hr).1.ty
    have := (Array.getElem?_eq_some_iff.1 hc').1
    simp only [List.map_cons, List.map_nil, List.mem_singleton] at hc
    omega
end
end Go.Proofs.Ytjamgmbdilkbcaa
