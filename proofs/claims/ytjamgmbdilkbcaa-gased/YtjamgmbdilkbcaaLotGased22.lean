import Derived.Test.YtjamgmbdilkbcaaLotGased21
/- lead: laws. -/
namespace Go.Proofs.Ytjamgmbdilkbcaa
open Go.RowKit

def scs (l : List SV) : List Value := l.flatMap SV.cells

theorem scs_len : ∀ (l : List SV), (∀ s ∈ l, s.Ok) → (scs l).length = l.length * 27
  | [], _ => rfl
  | s :: l, h => by
    have h1 := s.len (h s (by simp))
    have h2 := scs_len l (fun u hu => h u (by simp [hu]))
    simp only [scs, List.flatMap_cons, List.length_append, List.length_cons] at h2 ⊢
    omega

theorem scs_split (l : List SV) (j : Nat) (hj : j < l.length) : scs l = scs (l.take j) ++ (l[j].cells ++ scs (l.drop (j + 1))) := by
  have h : l = l.take j ++ (l[j] :: l.drop (j + 1)) := by rw [← List.drop_eq_getElem_cons hj, List.take_append_drop]
  have e : scs (l.take j ++ (l[j] :: l.drop (j + 1))) = scs (l.take j) ++ (l[j].cells ++ scs (l.drop (j + 1))) := by unfold scs; rw [List.flatMap_append, List.flatMap_cons]
  rw [← e, ← h]

theorem scs_get (l : List SV) (ok : ∀ s ∈ l, s.Ok) (j i : Nat) (hj : j < l.length) (hi : i < 27) : (scs l)[j * 27 + i]? = l[j].cells[i]? := by
  have h1 := scs_len (l.take j) (fun s hs => ok s (List.mem_of_mem_take hs))
  have h2 := l[j].len (ok _ (List.getElem_mem hj))
  rw [scs_split l j hj, List.getElem?_append_right (by rw [h1, List.length_take]; omega), h1, List.length_take, Nat.min_eq_left (by omega), List.getElem?_append_left (by omega)]
  congr 1
  omega

/-- one cell behind the other is set. -/
def setL (xs : List Value) (o : Nat) : List Value → List Value
  | [] => xs
  | v :: r => setL (xs.set o v) (o + 1) r

theorem setL_mid (c : List Value) : ∀ (vs a b : List Value), b.length = vs.length → setL (a ++ (b ++ c)) a.length vs = a ++ (vs ++ c)
  | [], a, b, h => by
    have : b = [] := List.eq_nil_of_length_eq_zero h
    subst this
    rfl
  | v :: r, a, [], h => by simp at h
  | v :: r, a, b0 :: b, h => by
    have hs : (a ++ (b0 :: b ++ c)).set a.length v = (a ++ [v]) ++ (b ++ c) := by simp
    rw [setL, hs]
    have := setL_mid c r (a ++ [v]) b (by simpa using h)
    rw [List.length_append, List.length_singleton] at this
    rw [this]
    simp

theorem owns_setCells {B e size n g cap : Nat} : ∀ (vs : List Value) (o : Nat) (w : World) (xs : List Value), w.ownsRow B e size (.slice (some ⟨g, 0, none⟩) n cap) n xs →
    (w.setCells g o vs).ownsRow B e size (.slice (some ⟨g, 0, none⟩) n cap) n (setL xs o vs) ∧ w.grownBy (w.setCells g o vs) (some g)
  | [], o, w, xs, h => ⟨h, grown_of_alike (Alike.refl w)⟩
  | v :: r, o, w, xs, h => by
    have h1 := h.stored o v
    have h2 := owns_setCells r (o + 1) _ _ h1.1
    exact ⟨h2.1, grown_trans h1.2 h2.2⟩

theorem scs_set (l : List SV) (ok : ∀ s ∈ l, s.Ok) (j : Nat) (hj : j < l.length) (s : SV) (os : s.Ok) : setL (scs l) (j * 27) s.cells = scs (l.set j s) := by
  have h1 := scs_len (l.take j) (fun s hs => ok s (List.mem_of_mem_take hs))
  have h2 := l[j].len (ok _ (List.getElem_mem hj))
  have h3 := s.len os
  have e1 : (scs (l.take j)).length = j * 27 := by rw [h1, List.length_take]; congr 1; omega
  rw [scs_split l j hj, ← e1, setL_mid _ _ _ _ (by omega)]
  have hj' : j < (l.set j s).length := by simpa using hj
  rw [scs_split (l.set j s) j hj', List.take_set_of_le (Nat.le_refl _), List.drop_set_of_lt (by omega), List.getElem_set_self]

theorem Try.size160 : (Try.prog.info? 160).map (·.size) = some 27 := by kernel_rfl
theorem Try.info160 : (Try.prog.info? 160).map (fun i => (i.zero.isSome, i.size, i.bytes)) = some (true, 27, 152) := by kernel_rfl

/-- a state among the states is read, as a whole. -/
theorem load_state {w : World} {B n g cap : Nat} {l : List SV} (h : w.ownsRow B 160 27 (.slice (some ⟨g, 0, none⟩) n cap) n (scs l)) (ok : ∀ s ∈ l, s.Ok) (j : Nat) (hj : j < l.length) (hn : n = l.length) :
    (Instr.loadAt 160 (.pointer (some ⟨g, j * 27, none⟩))).run Try.prog w = .ok l[j].val w := by
  have h2 := l[j].len (ok _ (List.getElem_mem hj))
  refine run_loadAt_mid w g (j * 27) 160 l[j].cells _ (fun i v hi => ?_) Try.underlying160 rfl (by rw [h2]; exact Try.size160)
  have hil : i < 27 := by rw [← h2]; exact (List.getElem?_eq_some_iff.1 hi).1
  rw [h.cellAt (j * 27 + i) (by subst hn; omega), scs_get l ok j i hj hil]
  exact hi

theorem store_state {w : World} {B n g cap : Nat} {l : List SV} (h : w.ownsRow B 160 27 (.slice (some ⟨g, 0, none⟩) n cap) n (scs l)) (ok : ∀ s ∈ l, s.Ok) (j : Nat) (hj : j < l.length) (hn : n = l.length) (s : SV) (os : s.Ok) :
    (Instr.storeAt 160 (.pointer (some ⟨g, j * 27, none⟩)) s.val).run Try.prog w = .ok () (w.setCells g (j * 27) s.cells) := by
  have h2 := s.len os
  refine run_storeAt_mid w g (j * 27) 160 s.cells.toArray (fun i hi => ?_) (by simp only [List.size_toArray, h2]; exact Try.size160) (all_oneCell_toArray s.one)
  simp only [List.size_toArray, h2] at hi
  have hl := scs_len l ok
  refine ⟨?_, h.frozenAt _⟩
  rw [h.cellAt (j * 27 + i) (by subst hn; omega), List.getElem?_eq_getElem (by rw [hl]; omega)]
  rfl

/-- a state in a variable of its own is read, as a whole. -/
theorem load_box {w : World} {q : Nat} {s : SV} (h : w.heap[q]? = some (.cells s.cells.toArray 160 (0, 0))) (os : s.Ok) :
    (Instr.loadAt 160 (.pointer (some ⟨q, 0, none⟩))).run Try.prog w = .ok s.val w := by
  have h2 := s.len os
  refine run_loadAt_mid w q 0 160 s.cells _ (fun i v hi => ?_) Try.underlying160 rfl (by rw [h2]; exact Try.size160)
  simp only [World.cell?, h, Nat.zero_add]
  simpa using hi

theorem range_box {w : World} {q : Nat} {s : SV} (h : w.heap[q]? = some (.cells s.cells.toArray 160 (0, 0))) : w.rangeAt q 0 s.cells := fun i v hi => by
  simp only [World.cell?, h, Nat.zero_add]
  simpa using hi
theorem range_state {w : World} {B n g cap : Nat} {l : List SV} (h : w.ownsRow B 160 27 (.slice (some ⟨g, 0, none⟩) n cap) n (scs l)) (ok : ∀ s ∈ l, s.Ok) (j : Nat) (hj : j < l.length) (hn : n = l.length) : w.rangeAt g (j * 27) l[j].cells := fun i v hi => by
  have h2 := l[j].len (ok _ (List.getElem_mem hj))
  have hil : i < 27 := by rw [← h2]; exact (List.getElem?_eq_some_iff.1 hi).1
  rw [h.cellAt (j * 27 + i) (by subst hn; omega), scs_get l ok j i hj hil]
  exact hi
theorem there_state {w : World} {B n g cap : Nat} {l : List SV} (h : w.ownsRow B 160 27 (.slice (some ⟨g, 0, none⟩) n cap) n (scs l)) (ok : ∀ s ∈ l, s.Ok) (j : Nat) (hj : j < l.length) (hn : n = l.length) : w.there g (j * 27) 27 := fun i hi => by
  have hl := scs_len l ok
  refine ⟨?_, h.frozenAt _⟩
  rw [h.cellAt (j * 27 + i) (by subst hn; omega), List.getElem?_eq_getElem (by rw [hl]; omega)]
  rfl

/-- the walk, all of it. -/
structure WW (w : World) (B q : Nat) (m : Pu.Md) (f : Pu.Fn) (mk mv pl st td : Value) (x : FV) (bad : Bool) (ss : List SV) (T : List Nat) : Prop where
  wm : WM w B q m f mk mv pl st td x bad
  os : w.ownsRow B 160 27 st ss.length (scs ss)
  ot : w.ownsRow B 3 1 td T.length (T.map fun n : Nat => Value.int .i64 (n : Int))
  ok : ∀ s ∈ ss, s.Ok ∧ (s.kn = true → s.bad = false)
end Go.Proofs.Ytjamgmbdilkbcaa
