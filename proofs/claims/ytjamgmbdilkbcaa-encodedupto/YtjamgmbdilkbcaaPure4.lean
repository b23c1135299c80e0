/- Plain functions: the document's Encode, which writes first and reads what it wrote. -/
import Derived.Test.YtjamgmbdilkbcaaPure3
namespace Go.Proofs.Ytjamgmbdilkbcaa
namespace Pu

/-- may a number be a byte? -/
def isB (x : Int) : Bool := decide (0 ≤ x) && decide (x ≤ 255)
def smallL (l : List Int) : Bool := l.all isB && decide (l.length < 256)
def flat (l : List (Int × Int)) : List Int := l.flatMap fun x => [x.1, x.2]
def smallF (f : Fn) : Bool := smallL f.params && smallL f.results && smallL f.locals && decide (f.code.length ≤ 255) && (flat f.code).all isB
def smallM (m : Md) : Bool := smallL m.kinds && decide (m.funcs.length ≤ 255) && m.funcs.all smallF

/-- is what was written a module's? -/
def wholeBad (b : ByteArray) : Bool := (atEnd b (module b).2).2

def renc (m : Md) : List UInt8 × Int :=
  if smallM m = true then (if wholeBad ⟨(wMd m).toArray⟩ = true then ([], 2) else if 1500 < (wMd m).length then ([], 1) else (wMd m, 0)) else ([], 2)

theorem byte_inj {x y : Int} (hx : isB x = true) (hy : isB y = true) (h : byte x = byte y) : x = y := by
  simp only [isB, Bool.and_eq_true, decide_eq_true_eq] at hx hy
  have h1 := u8_byte x hx.1 hx.2
  have h2 := u8_byte y hy.1 hy.2
  rw [h] at h1
  omega

theorem bytes_inj : ∀ {l l' : List Int} {t t' : List UInt8}, l.length = l'.length → l.all isB = true → l'.all isB = true → l.map byte ++ t = l'.map byte ++ t' → l = l' ∧ t = t'
  | [], [], _, _, _, _, _, h => ⟨rfl, by simpa using h⟩
  | x :: l, y :: l', t, t', hl, h1, h2, h => by
    simp only [List.all_cons, Bool.and_eq_true] at h1 h2
    simp only [List.map_cons, List.cons_append, List.cons.injEq] at h
    obtain ⟨e, e'⟩ := bytes_inj (by simpa using hl) h1.2 h2.2 h.2
    exact ⟨by rw [byte_inj h1.1 h2.1 h.1, e], e'⟩
  | [], _ :: _, _, _, hl, _, _, _ => by simp at hl
  | _ :: _, [], _, _, hl, _, _, _ => by simp at hl

theorem len_isB {n : Nat} (h : n < 256) : isB (n : Int) = true := by
  simp only [isB, Bool.and_eq_true, decide_eq_true_eq]
  omega

theorem wList_inj {l l' : List Int} {t t' : List UInt8} (h1 : smallL l = true) (h2 : smallL l' = true) (h : wList l ++ t = wList l' ++ t') : l = l' ∧ t = t' := by
  simp only [smallL, Bool.and_eq_true, decide_eq_true_eq] at h1 h2
  simp only [wList, List.cons_append, List.cons.injEq] at h
  have := byte_inj (len_isB h1.2) (len_isB h2.2) h.1
  exact bytes_inj (by omega) h1.1 h2.1 h.2

theorem wCode_flat (l : List (Int × Int)) : wCode l = (flat l).map byte := by
  induction l with
  | nil => rfl
  | cons x l ih => simp only [wCode, flat, List.flatMap_cons, List.map_append, List.map_cons, List.map_nil] at ih ⊢; rw [ih]
theorem flat_len (l : List (Int × Int)) : (flat l).length = 2 * l.length := by
  induction l with
  | nil => rfl
  | cons x l ih => simp only [flat, List.flatMap_cons, List.length_append, List.length_cons, List.length_nil] at ih ⊢; omega
theorem flat_inj : ∀ {l l' : List (Int × Int)}, flat l = flat l' → l = l'
  | [], [], _ => rfl
  | (a, b) :: l, (c, d) :: l', h => by
    simp only [flat, List.flatMap_cons, List.cons_append, List.nil_append, List.cons.injEq] at h
    obtain ⟨rfl, rfl, h⟩ := h
    rw [flat_inj h]
  | [], (_, _) :: _, h => by simp [flat] at h
  | (_, _) :: _, [], h => by simp [flat] at h

theorem wFn_inj {f f' : Fn} {t t' : List UInt8} (h1 : smallF f = true) (h2 : smallF f' = true) (h : wFn f ++ t = wFn f' ++ t') : f = f' ∧ t = t' := by
  simp only [smallF, Bool.and_eq_true, decide_eq_true_eq] at h1 h2
  obtain ⟨⟨⟨⟨p1, r1⟩, l1⟩, n1⟩, c1⟩ := h1
  obtain ⟨⟨⟨⟨p2, r2⟩, l2⟩, n2⟩, c2⟩ := h2
  simp only [wFn, List.append_assoc, List.cons_append] at h
  obtain ⟨e1, h⟩ := wList_inj p1 p2 h
  obtain ⟨e2, h⟩ := wList_inj r1 r2 h
  obtain ⟨e3, h⟩ := wList_inj l1 l2 h
  simp only [List.cons.injEq] at h
  have e4 := byte_inj (len_isB (by omega)) (len_isB (by omega)) h.1
  have h5 := h.2
  rw [wCode_flat, wCode_flat] at h5
  obtain ⟨e5, h6⟩ := bytes_inj (by rw [flat_len, flat_len]; omega) c1 c2 h5
  have e6 := flat_inj e5
  obtain ⟨a, b, c, d⟩ := f
  obtain ⟨a', b', c', d'⟩ := f'
  simp only at e1 e2 e3 e6
  subst e1 e2 e3 e6
  exact ⟨rfl, h6⟩

theorem wFns_inj : ∀ {l l' : List Fn} {t t' : List UInt8}, l.length = l'.length → l.all smallF = true → l'.all smallF = true → wFns l ++ t = wFns l' ++ t' → l = l' ∧ t = t'
  | [], [], _, _, _, _, _, h => ⟨rfl, by simpa [wFns] using h⟩
  | x :: l, y :: l', t, t', hl, h1, h2, h => by
    simp only [List.all_cons, Bool.and_eq_true] at h1 h2
    simp only [wFns, List.flatMap_cons, List.append_assoc] at h
    obtain ⟨e1, h⟩ := wFn_inj h1.1 h2.1 h
    obtain ⟨e, e'⟩ := wFns_inj (by simpa using hl) h1.2 h2.2 h
    exact ⟨by rw [e1, e], e'⟩
  | [], _ :: _, _, _, hl, _, _, _ => by simp at hl
  | _ :: _, [], _, _, hl, _, _, _ => by simp at hl

theorem wMd_inj {m m' : Md} (h1 : smallM m = true) (h2 : smallM m' = true) (h : wMd m = wMd m') : m = m' := by
  simp only [smallM, Bool.and_eq_true, decide_eq_true_eq] at h1 h2
  simp only [wMd, List.cons.injEq, true_and] at h
  obtain ⟨e1, h⟩ := wList_inj h1.1.1 h2.1.1 h
  simp only [List.cons.injEq] at h
  have e2 := byte_inj (len_isB (by omega)) (len_isB (by omega)) h.1
  obtain ⟨e3, _⟩ := wFns_inj (t := []) (t' := []) (by omega) h1.2 h2.2 (by rw [h.2])
  obtain ⟨a, b⟩ := m
  obtain ⟨a', b'⟩ := m'
  simp only at e1 e3
  subst e1 e3
  rfl

theorem isList_small {l : List Int} {most hi : Int} (hm : most ≤ 255) (hh : hi ≤ 255) (h : isList l most hi = true) : smallL l = true := by
  simp only [isList, smallL, isB, Bool.and_eq_true, decide_eq_true_eq, List.all_eq_true] at h ⊢
  exact ⟨fun x hx => by have := h.2 x hx; omega, by omega⟩

theorem isFn_small {f : Fn} {ki fu : Int} (hk : ki ≤ 255) (hf : fu ≤ 255) (h : isFn f ki fu = true) : smallF f = true := by
  simp only [isFn, Bool.and_eq_true, decide_eq_true_eq] at h
  obtain ⟨h1, h2, h3, h4, h5, h6⟩ := h
  have p1 : (f.params.length : Int) ≤ 4 := by simp only [isList, Bool.and_eq_true, decide_eq_true_eq] at h1; exact h1.1
  have p3 : (f.locals.length : Int) ≤ 4 := by simp only [isList, Bool.and_eq_true, decide_eq_true_eq] at h3; exact h3.1
  simp only [smallF, Bool.and_eq_true, decide_eq_true_eq]
  refine ⟨⟨⟨⟨isList_small (by omega) hk h1, isList_small (by omega) hk h2⟩, isList_small (by omega) hk h3⟩, by omega⟩, ?_⟩
  rw [List.all_eq_true]
  intro x hx
  obtain ⟨y, hy, hxy⟩ := List.mem_flatMap.1 hx
  simp only [isCode, List.all_eq_true] at h6
  have h7 := h6 y hy
  simp only [isInstr, Bool.and_eq_true, decide_eq_true_eq] at h7
  have a1 := argLo_ge y.1
  have a2 := argHi_le ki fu ((f.params.length : Int) + (f.locals.length : Int)) f.code.length y.1 hk hf (by omega) (by omega)
  simp only [isB, Bool.and_eq_true, decide_eq_true_eq]
  simp only [List.mem_cons, List.not_mem_nil, or_false] at hxy
  rcases hxy with rfl | rfl <;> omega

theorem isMd_small {m : Md} (h : isMd m = true) : smallM m = true := by
  simp only [isMd, Bool.and_eq_true, decide_eq_true_eq, List.all_eq_true] at h
  obtain ⟨h1, h2, h3, h4⟩ := h
  have p1 : (m.kinds.length : Int) ≤ 6 := by simp only [isList, Bool.and_eq_true, decide_eq_true_eq] at h1; exact h1.1
  simp only [smallM, Bool.and_eq_true, decide_eq_true_eq, List.all_eq_true]
  exact ⟨⟨isList_small (by omega) (by omega) h1, by omega⟩, fun f hf => isFn_small (by omega) (by omega) (h4 f hf)⟩

theorem whole_is {m : Md} (hs : smallM m = true) : wholeBad ⟨(wMd m).toArray⟩ = !isMd m := by
  have e : (ByteArray.mk (wMd m).toArray).data.toList = wMd m ++ [] := by simp
  have hsz : (ByteArray.mk (wMd m).toArray).size = (wMd m).length := by simp [ByteArray.size]
  cases hm : isMd m with
  | true =>
    obtain ⟨g1, g2, g3⟩ := module_go e hm
    have hle : ¬ (module ⟨(wMd m).toArray⟩).2.1 < (ByteArray.mk (wMd m).toArray).size := by
      simp only [rest, List.drop_eq_nil_iff] at g3
      rw [hsz]
      simpa using g3
    simp only [wholeBad, atEnd, hle, if_false, g2]
    rfl
  | false =>
    cases hw : wholeBad ⟨(wMd m).toArray⟩ with
    | true => rfl
    | false =>
      exfalso
      unfold wholeBad at hw
      have h3 : ¬ (module ⟨(wMd m).toArray⟩).2.1 < (ByteArray.mk (wMd m).toArray).size := by
        intro hc; simp [atEnd, hc] at hw
      have h4 : (module ⟨(wMd m).toArray⟩).2.2 = false := by
        simp only [atEnd, h3, if_false] at hw; simpa using hw
      obtain ⟨k1, k2⟩ := module_ok h4
      have hn : rest ⟨(wMd m).toArray⟩ (module ⟨(wMd m).toArray⟩).2 = [] := by
        simp only [rest, List.drop_eq_nil_iff]
        rw [hsz] at h3
        simpa using h3
      rw [hn, List.append_nil] at k1
      have := wMd_inj hs (isMd_small k2) k1
      rw [← this, hm] at k2
      simp at k2

/-- both ways of Encode are one. -/
theorem renc_eq (m : Md) : renc m = encode m := by
  unfold renc encode
  cases hs : smallM m with
  | true =>
    rw [if_pos rfl, whole_is hs]
    cases isMd m <;> simp
  | false =>
    cases hm : isMd m with
    | true => rw [isMd_small hm] at hs; simp at hs
    | false => simp
end Pu
end Go.Proofs.Ytjamgmbdilkbcaa
