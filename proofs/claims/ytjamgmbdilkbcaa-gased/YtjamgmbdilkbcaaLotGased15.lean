import Derived.Test.YtjamgmbdilkbcaaLotGased01
import Derived.Test.YtjamgmbdilkbcaaLotGased08
/- Plain functions: the document's Encode, which writes first and reads what it wrote. -/
namespace Go.Proofs.Ytjamgmbdilkbcaa
namespace Pu

/-- may a number be a byte? -/
def isB (x : Int) : Bool := decide (0 ≤ x) && decide (x ≤ 255)
def smallL (l : List Int) : Bool := l.all isB && decide (l.length < 256)
def flat (l : List (Int × Int)) : List Int := l.flatMap fun x => [x.1, x.2]
def smallF (f : Fn) : Bool := smallL f.params && smallL f.results && smallL f.locals && decide (f.code.length ≤ 255) && (flat f.code).all isB
def smallM (m : Md) : Bool := smallL m.kinds && decide (m.funcs.length ≤ 255) && m.funcs.all smallF

/-- is what was written a module's? -/
def wholeBad (b : ByteArray) : Bool := (atEnd b (module b).2).2

def renc (m : Md) : List UInt8 × Int :=
  if smallM m = true then (if wholeBad ⟨(wMd m).toArray⟩ = true then ([], 2) else if 1500 < (wMd m).length then ([], 1) else (wMd m, 0)) else ([], 2)

theorem byte_inj {x y : Int} (hx : isB x = true) (hy : isB y = true) (h : byte x = byte y) : x = y := by
  simp only [isB, Bool.and_eq_true, decide_eq_true_eq] at hx hy
  have h1 := u8_byte x hx.1 hx.2
  have h2 := u8_byte y hy.1 hy.2
  rw [h] at h1
  omega

theorem bytes_inj : ∀ {l l' : List Int} {t t' : List UInt8}, l.length = l'.length → l.all isB = true → l'.all isB = true → l.map byte ++ t = l'.map byte ++ t' → l = l' ∧ t = t'
  | [], [], _, _, _, _, _, h => ⟨rfl, by simpa using h⟩
  | x :: l, y :: l', t, t', hl, h1, h2, h => by
    simp only [List.all_cons, Bool.and_eq_true] at h1 h2
    simp only [List.map_cons, List.cons_append, List.cons.injEq] at h
    obtain ⟨e, e'⟩ := bytes_inj (by simpa using hl) h1.2 h2.2 h.2
    exact ⟨by rw [byte_inj h1.1 h2.1 h.1, e], e'⟩
  | [], _ :: _, _, _, hl, _, _, _ => by simp at hl
  | _ :: _, [], _, _, hl, _, _, _ => by simp at hl

theorem len_isB {n : Nat} (h : n < 256) : isB (n : Int) = true := by
  simp only [isB, Bool.and_eq_true, decide_eq_true_eq]
  omega

theorem wList_inj {l l' : List Int} {t t' : List UInt8} (h1 : smallL l = true) (h2 : smallL l' = true) (h : wList l ++ t = wList l' ++ t') : l = l' ∧ t = t' := by
  simp only [smallL, Bool.and_eq_true, decide_eq_true_eq] at h1 h2
  simp only [wList, List.cons_append, List.cons.injEq] at h
  have := byte_inj (len_isB h1.2) (len_isB h2.2) h.1
  exact bytes_inj (by omega) h1.1 h2.1 h.2

theorem wCode_flat (l : List (Int × Int)) : wCode l = (flat l).map byte := by
  induction l with
  | nil => rfl
  | cons x l ih => simp only [wCode, flat, List.flatMap_cons, List.map_append, List.map_cons, List.map_nil] at ih ⊢; rw [ih]
theorem flat_len (l : List (Int × Int)) : (flat l).length = 2 * l.length := by
  induction l with
  | nil => rfl
  | cons x l ih => simp only [flat, List.flatMap_cons, List.length_append, List.length_cons, List.length_nil] at ih ⊢; omega
theorem flat_inj : ∀ {l l' : List (Int × Int)}, flat l = flat l' → l = l'
  | [], [], _ => rfl
  | (a, b) :: l, (c, d) :: l', h => by
    simp only [flat, List.flatMap_cons, List.cons_append, List.nil_append, List.cons.injEq] at h
    obtain ⟨rfl, rfl, h⟩ := h
    rw [flat_inj h]
  | [], (_, _) :: _, h => by simp [flat] at h
  | (_, _) :: _, [], h => by simp [flat] at h

theorem wFn_inj {f f' : Fn} {t t' : List UInt8} (h1 : smallF f = true) (h2 : smallF f' = true) (h : wFn f ++ t = wFn f' ++ t') : f = f' ∧ t = t' := by
  simp only [smallF, Bool.and_eq_true, decide_eq_true_eq] at h1 h2
  obtain ⟨⟨⟨⟨p1, r1⟩, l1⟩, n1⟩, c1⟩ := h1
  obtain ⟨⟨⟨⟨p2, r2⟩, l2⟩, n2⟩, c2⟩ := h2
  simp only [wFn, List.append_assoc, List.cons_append] at h
  obtain ⟨e1, h⟩ := wList_inj p1 p2 h
  obtain ⟨e2, h⟩ := wList_inj r1 r2 h
  obtain ⟨e3, h⟩ := wList_inj l1 l2 h
  simp only [List.cons.injEq] at h
  have e4 := byte_inj (len_isB (by omega)) (len_isB (by omega)) h.1
  have h5 := h.2
  rw [wCode_flat, wCode_flat] at h5
  obtain ⟨e5, h6⟩ := bytes_inj (by rw [flat_len, flat_len]; omega) c1 c2 h5
  have e6 := flat_inj e5
  obtain ⟨a, b, c, d⟩ := f
  obtain ⟨a', b', c', d'⟩ := f'
  simp only at e1 e2 e3 e6
  subst e1 e2 e3 e6
  exact ⟨rfl, h6⟩

theorem wFns_inj : ∀ {l l' : List Fn} {t t' : List UInt8}, l.length = l'.length → l.all smallF = true → l'.all smallF = true → wFns l ++ t = wFns l' ++ t' → l = l' ∧ t = t'
  | [], [], _, _, _, _, _, h => ⟨rfl, by simpa [wFns] using h⟩
  | x :: l, y :: l', t, t', hl, h1, h2, h => by
    simp only [List.all_cons, Bool.and_eq_true] at h1 h2
    simp only [wFns, List.flatMap_cons, List.append_assoc] at h
    obtain ⟨e1, h⟩ := wFn_inj h1.1 h2.1 h
    obtain ⟨e, e'⟩ := wFns_inj (by simpa using hl) h1.2 h2.2 h
    exact ⟨by rw [e1, e], e'⟩
  | [], _ :: _, _, _, hl, _, _, _ => by simp at hl
  | _ :: _, [], _, _, hl, _, _, _ => by simp at hl

theorem wMd_inj {m m' : Md} (h1 : smallM m = true) (h2 : smallM m' = true) (h : wMd m = wMd m') : m = m' := by
  simp only [smallM, Bool.and_eq_true, decide_eq_true_eq] at h1 h2
  simp only [wMd, List.cons.injEq, true_and] at h
  obtain ⟨e1, h⟩ := wList_inj h1.1.1 h2.1.1 h
  simp only [List.cons.injEq] at h
  have e2 := byte_inj (len_isB (by omega)) (len_isB (by omega)) h.1
  obtain ⟨e3, _⟩ := wFns_inj (t := []) (t' := []) (by omega) h1.2 h2.2 (by rw [h.2])
  obtain ⟨a, b⟩ := m
  obtain ⟨a', b'⟩ := m'
  simp only at e1 e3
  subst e1 e3
  rfl

theorem isList_small {l : List Int} {most hi : Int} (hm : most ≤ 255) (hh : hi ≤ 255) (h : isList l most hi = true) : smallL l = true := by
  simp only [isList, smallL, isB, Bool.and_eq_true, decide_eq_true_eq, List.all_eq_true] at h ⊢
  exact ⟨fun x hx => by have := h.2 x hx; omega, by omega⟩

theorem isFn_small {f : Fn} {ki fu : Int} (hk : ki ≤ 255) (hf : fu ≤ 255) (h : isFn f ki fu = true) : smallF f = true := by
  simp only [isFn, Bool.and_eq_true, decide_eq_true_eq] at h
  obtain ⟨h1, h2, h3, h4, h5, h6⟩ := h
  have p1 : (f.params.length : Int) ≤ 4 := by simp only [isList, Bool.and_eq_true, decide_eq_true_eq] at h1; exact h1.1
  have p3 : (f.locals.length : Int) ≤ 4 := by simp only [isList, Bool.and_eq_true, decide_eq_true_eq] at h3; exact h3.1
  simp only [smallF, Bool.and_eq_true, decide_eq_true_eq]
  refine ⟨⟨⟨⟨isList_small (by omega) hk h1, isList_small (by omega) hk h2⟩, isList_small (by omega) hk h3⟩, by omega⟩, ?_⟩
  rw [List.all_eq_true]
  intro x hx
  obtain ⟨y, hy, hxy⟩ := List.mem_flatMap.1 hx
  simp only [isCode, List.all_eq_true] at h6
  have h7 := h6 y hy
  simp only [isInstr, Bool.and_eq_true, decide_eq_true_eq] at h7
  have a1 := argLo_ge y.1
  have a2 := argHi_le ki fu ((f.params.length : Int) + (f.locals.length : Int)) f.code.length y.1 hk hf (by omega) (by omega)
  simp only [isB, Bool.and_eq_true, decide_eq_true_eq]
  simp only [List.mem_cons, List.not_mem_nil, or_false] at hxy
  rcases hxy with rfl | rfl <;> omega

theorem isMd_small {m : Md} (h : isMd m = true) : smallM m = true := by
  simp only [isMd, Bool.and_eq_true, decide_eq_true_eq, List.all_eq_true] at h
  obtain ⟨h1, h2, h3, h4⟩ := h
  have p1 : (m.kinds.length : Int) ≤ 6 := by simp only [isList, Bool.and_eq_true, decide_eq_true_eq] at h1; exact h1.1
  simp only [smallM, Bool.and_eq_true, decide_eq_true_eq, List.all_eq_true]
  exact ⟨⟨isList_small (by omega) (by omega) h1, by omega⟩, fun f hf => isFn_small (by omega) (by omega) (h4 f hf)⟩

theorem whole_is {m : Md} (hs : smallM m = true) : wholeBad ⟨(wMd m).toArray⟩ = !isMd m := by
  have e : (ByteArray.mk (wMd m).toArray).data.toList = wMd m ++ [] := by simp
  have hsz : (ByteArray.mk (wMd m).toArray).size = (wMd m).length := by simp [ByteArray.size]
  cases hm : isMd m with
  | true =>
    obtain ⟨g1, g2, g3⟩ := module_go e hm
    have hle : ¬ (module ⟨(wMd m).toArray⟩).2.1 < (ByteArray.mk (wMd m).toArray).size := by
      simp only [rest, List.drop_eq_nil_iff] at g3
      rw [hsz]
      simpa using g3
    simp only [wholeBad, atEnd, hle, if_false, g2]
    rfl
  | false =>
    cases hw : wholeBad ⟨(wMd m).toArray⟩ with
    | true => rfl
    | false =>
      exfalso
      unfold wholeBad at hw
      have h3 : ¬ (module ⟨(wMd m).toArray⟩).2.1 < (ByteArray.mk (wMd m).toArray).size := by
        intro hc; simp [atEnd, hc] at hw
      have h4 : (module ⟨(wMd m).toArray⟩).2.2 = false := by
        simp only [atEnd, h3, if_false] at hw; simpa using hw
      obtain ⟨k1, k2⟩ := module_ok h4
      have hn : rest ⟨(wMd m).toArray⟩ (module ⟨(wMd m).toArray⟩).2 = [] := by
        simp only [rest, List.drop_eq_nil_iff]
        rw [hsz] at h3
        simpa using h3
      rw [hn, List.append_nil] at k1
      have := wMd_inj hs (isMd_small k2) k1
      rw [← this, hm] at k2
      simp at k2

/-- both ways of Encode are one. -/
theorem renc_eq (m : Md) : renc m = encode m := by
  unfold renc encode
  cases hs : smallM m with
  | true =>
    rw [if_pos rfl, whole_is hs]
    cases isMd m <;> simp
  | false =>
    cases hm : isMd m with
    | true => rw [isMd_small hm] at hs; simp at hs
    | false => simp
end Pu
end Go.Proofs.Ytjamgmbdilkbcaa

/- The document's own reader: next. -/
namespace Go.Proofs.Ytjamgmbdilkbcaa
open Go.RowKit

/-- the block of the document's reader. -/
def Ct (w : World) (p : Nat) (b : ByteArray) (k : Nat) (bad : Int) : Prop :=
  w.heap[p]? = some (.cells #[.string b, .int .i64 (k : Int), .int .i64 bad] 126 (0, 0))
section
variable {w w' : World} {p : Nat} {b : ByteArray} {k : Nat} {bad : Int}
theorem Ct.lt (h : Ct w p b k bad) : p < w.heap.size := (Array.getElem?_eq_some_iff.1 h).1
theorem Ct.c0 (h : Ct w p b k bad) : w.cell? ⟨p, 0, none⟩ = some (.string b) := by unfold Ct at h; simp [World.cell?, h]
theorem Ct.c1 (h : Ct w p b k bad) : w.cell? ⟨p, 1, none⟩ = some (.int .i64 (k : Int)) := by unfold Ct at h; simp [World.cell?, h]
theorem Ct.c2 (h : Ct w p b k bad) : w.cell? ⟨p, 2, none⟩ = some (.int .i64 bad) := by unfold Ct at h; simp [World.cell?, h]
theorem Ct.fz (h : Ct w p b k bad) (o : Nat) : w.frozen? ⟨p, o, none⟩ = false := by unfold Ct at h; simp [World.frozen?, h]
theorem Ct.kept {r : Option Nat} (h : Ct w p b k bad) (hg : w.grownBy w' r) (hr : some p ≠ r) : Ct w' p b k bad := (hg.block p h.lt hr).trans h
end

set_option maxHeartbeats 400000 in
theorem next_bad (p : Nat) (b : ByteArray) (k : Nat) (bad lo hi : Int) (w : World) (h : Ct w p b k bad) (hb : 0 ≤ bad) :
    Calls Try.prog 61 #[.pointer (some ⟨p, 0, none⟩), .int .i64 lo, .int .i64 hi] w fun e w' => e = .returned (.int .i64 0) ∧ w' = w := by
  have h2 := h.c2
  go_enter Try.func61, Try.ntmps61
  go_wp2
  go_ret
  exact ⟨rfl, rfl⟩

set_option maxHeartbeats 400000 in
theorem next_end (p : Nat) (b : ByteArray) (k : Nat) (lo hi : Int) (w : World) (h : Ct w p b k (-1)) (hk : b.size ≤ k) :
    Calls Try.prog 61 #[.pointer (some ⟨p, 0, none⟩), .int .i64 lo, .int .i64 hi] w fun e w' => e = .returned (.int .i64 0) ∧ ∃ n, w' = (w.drewN n).setCell ⟨p, 2, none⟩ (.int .i64 k) := by
  have h0 := h.c0
  have h1 := h.c1
  have h2 := h.c2
  have h3 := h.fz 2
  have hd : decide (b.size ≤ k) = true := by simpa using hk
  clear h
  go_enter Try.func61, Try.ntmps61
  go_wp2
  go_quiet (fail)
  go_wp2
  go_ret
  exact ⟨rfl, _, rfl⟩

set_option maxHeartbeats 400000 in
theorem next_low (p : Nat) (b : ByteArray) (k : Nat) (lo hi : Int) (w : World) (h : Ct w p b k (-1)) (hk : k < b.size) (hlo : ((b[k]'hk).toNat : Int) < lo) :
    Calls Try.prog 61 #[.pointer (some ⟨p, 0, none⟩), .int .i64 lo, .int .i64 hi] w fun e w' => e = .returned (.int .i64 0) ∧ ∃ n, w' = (w.drewN n).setCell ⟨p, 2, none⟩ (.int .i64 k) := by
  have h0 := h.c0
  have h1 := h.c1
  have h2 := h.c2
  have h3 := h.fz 2
  have hd : decide (b.size ≤ k) = false := by simpa using hk
  have hw : wrap64 ((b[k]'hk).toNat : Int) = ((b[k]'hk).toNat : Int) := wrap64_u8 _
  have hd2 : decide (((b[k]'hk).toNat : Int) < lo) = true := by simpa using hlo
  clear h
  go_enter Try.func61, Try.ntmps61
  go_wp2
  go_quiet (fail)
  go_wp2
  go_ret
  exact ⟨rfl, _, rfl⟩

set_option maxHeartbeats 400000 in
theorem next_high (p : Nat) (b : ByteArray) (k : Nat) (lo hi : Int) (w : World) (h : Ct w p b k (-1)) (hk : k < b.size) (hlo : ¬ ((b[k]'hk).toNat : Int) < lo) (hhi : hi < ((b[k]'hk).toNat : Int)) :
    Calls Try.prog 61 #[.pointer (some ⟨p, 0, none⟩), .int .i64 lo, .int .i64 hi] w fun e w' => e = .returned (.int .i64 0) ∧ ∃ n, w' = (w.drewN n).setCell ⟨p, 2, none⟩ (.int .i64 k) := by
  have h0 := h.c0
  have h1 := h.c1
  have h2 := h.c2
  have h3 := h.fz 2
  have hd : decide (b.size ≤ k) = false := by simpa using hk
  have hw : wrap64 ((b[k]'hk).toNat : Int) = ((b[k]'hk).toNat : Int) := wrap64_u8 _
  have hd2 : decide (((b[k]'hk).toNat : Int) < lo) = false := by simpa using hlo
  have hd3 : decide (hi < ((b[k]'hk).toNat : Int)) = true := by simpa using hhi
  clear h
  go_enter Try.func61, Try.ntmps61
  go_wp2
  go_quiet (fail)
  go_wp2
  go_ret
  exact ⟨rfl, _, rfl⟩

set_option maxHeartbeats 400000 in
theorem next_good (p : Nat) (b : ByteArray) (k : Nat) (lo hi : Int) (w : World) (h : Ct w p b k (-1)) (hk : k < b.size) (hs : b.size ≤ maxLen) (hlo : ¬ ((b[k]'hk).toNat : Int) < lo) (hhi : ¬ hi < ((b[k]'hk).toNat : Int)) :
    Calls Try.prog 61 #[.pointer (some ⟨p, 0, none⟩), .int .i64 lo, .int .i64 hi] w fun e w' => e = .returned (.int .i64 ((b[k]'hk).toNat : Int)) ∧ ∃ n m, w' = ((w.drewN n).setCell ⟨p, 1, none⟩ (.int .i64 ((k : Int) + 1))).drewN m := by
  have h0 := h.c0
  have h1 := h.c1
  have h2 := h.c2
  have h3 := h.fz 1
  have hd : decide (b.size ≤ k) = false := by simpa using hk
  have hw : wrap64 ((b[k]'hk).toNat : Int) = ((b[k]'hk).toNat : Int) := wrap64_u8 _
  have hd2 : decide (((b[k]'hk).toNat : Int) < lo) = false := by simpa using hlo
  have hd3 : decide (hi < ((b[k]'hk).toNat : Int)) = false := by simpa using hhi
  unfold maxLen at hs
  clear h
  go_enter Try.func61, Try.ntmps61
  go_wp2
  go_quiet (fail)
  go_wp2
  go_quiet (fail)
  go_wp2
  go_ret
  exact ⟨by show Ending.returned (.int .i64 (wrap64 ((b[k]'hk).toNat : Int))) = _; rw [wrap64_u8], _, _, rfl⟩

/-- Bad, by what was read so far. -/
def bd (s : Pu.St) : Int := if s.2 = true then (s.1 : Int) else -1

theorem Ct.setBad {w : World} {p : Nat} {b : ByteArray} {k : Nat} {bad : Int} (h : Ct w p b k bad) (n : Nat) (x : Int) : Ct ((w.drewN n).setCell ⟨p, 2, none⟩ (.int .i64 x)) p b k x := by
  unfold Ct at h ⊢
  simp [World.setCell, Array.getElem?_modify, h]

/-- the document's next, whatever comes. -/
theorem next_any (p : Nat) (b : ByteArray) (s : Pu.St) (lo hi : Int) (w : World) (h : Ct w p b s.1 (bd s)) (hs : b.size ≤ maxLen) :
    Calls Try.prog 61 #[.pointer (some ⟨p, 0, none⟩), .int .i64 lo, .int .i64 hi] w fun e w' =>
      e = .returned (.int .i64 (Pu.number b lo hi s).1) ∧ Ct w' p b (Pu.number b lo hi s).2.1 (bd (Pu.number b lo hi s).2) ∧ w.grownBy w' (some p) ∧ w'.heap.size = w.heap.size := by
  obtain ⟨k, bad⟩ := s
  cases bad with
  | true =>
    refine (next_bad p b k (bd (k, true)) lo hi w h (by simp [bd])).mono ?_
    rintro e w' ⟨rfl, rfl⟩
    exact ⟨by simp [Pu.number], by simpa [Pu.number] using h, grown_refl _ _, rfl⟩
  | false =>
    have h' : Ct w p b k (-1) := by simpa [bd] using h
    by_cases hk : b.size ≤ k
    · have e1 : Pu.number b lo hi (k, false) = (0, (k, true)) := by simp [Pu.number, hk]
      rw [e1]
      refine (next_end p b k lo hi w h' hk).mono ?_
      rintro e w' ⟨rfl, n, rfl⟩
      exact ⟨rfl, by simpa [bd] using h'.setBad n k, grown_setCell _ _ _ _ _, by simp [World.setCell]⟩
    · have hk' : k < b.size := by omega
      have hg := getD_byte b k hk'
      by_cases hlo : ((b[k]'hk').toNat : Int) < lo
      · have e1 : Pu.number b lo hi (k, false) = (0, (k, true)) := by
          simp only [Pu.number, hg]; rw [if_neg (by simp), if_neg (by simpa using hk), if_pos (Or.inl hlo)]
        rw [e1]
        refine (next_low p b k lo hi w h' hk' hlo).mono ?_
        rintro e w' ⟨rfl, n, rfl⟩
        exact ⟨rfl, by simpa [bd] using h'.setBad n k, grown_setCell _ _ _ _ _, by simp [World.setCell]⟩
      · by_cases hhi : hi < ((b[k]'hk').toNat : Int)
        · have e1 : Pu.number b lo hi (k, false) = (0, (k, true)) := by
            simp only [Pu.number, hg]; rw [if_neg (by simp), if_neg (by simpa using hk), if_pos (Or.inr hhi)]
          rw [e1]
          refine (next_high p b k lo hi w h' hk' hlo hhi).mono ?_
          rintro e w' ⟨rfl, n, rfl⟩
          exact ⟨rfl, by simpa [bd] using h'.setBad n k, grown_setCell _ _ _ _ _, by simp [World.setCell]⟩
        · have e1 : Pu.number b lo hi (k, false) = (((b[k]'hk').toNat : Int), (k + 1, false)) := by
            simp only [Pu.number, hg]; rw [if_neg (by simp), if_neg (by simpa using hk), if_neg (by omega)]
          rw [e1]
          refine (next_good p b k lo hi w h' hk' hs hlo hhi).mono ?_
          rintro e w' ⟨rfl, n, m, rfl⟩
          refine ⟨rfl, ?_, ?_, by simp [World.setCell]⟩
          · unfold Ct at h' ⊢
            simp [World.setCell, Array.getElem?_modify, h', bd]
          · have := grown_setCell w n p 1 (.int .i64 ((k : Int) + 1))
            exact ⟨this.os, this.tape, this.output, this.size, this.block⟩
end Go.Proofs.Ytjamgmbdilkbcaa

/- The document's own reader: some, least, most. -/
namespace Go.Proofs.Ytjamgmbdilkbcaa
open Go.RowKit

/-- a slice's length. -/
def lenOf : Value → Nat
  | .slice _ l _ => l
  | _ => 0

theorem number_stuck (b : ByteArray) (lo hi : Int) (s : Pu.St) (h : s.2 = true) : Pu.number b lo hi s = (0, s) := by unfold Pu.number; rw [if_pos h]
theorem nums_stuck (b : ByteArray) (hi : Int) (s : Pu.St) (k : Nat) (h : (Pu.nums b hi s k).2.2 = true) : ∀ n, k ≤ n → (Pu.nums b hi s n).2 = (Pu.nums b hi s k).2 := by
  intro n hn
  induction n with
  | zero => have : k = 0 := by omega
            subst this; rfl
  | succ n ih =>
    by_cases e : k = n + 1
    · subst e; rfl
    · have := ih (by omega)
      show (Pu.number b 0 hi (Pu.nums b hi s n).2).2 = _
      rw [number_stuck _ _ _ _ (by rw [this]; exact h), this]

theorem bd_neg {s : Pu.St} : bd s < 0 ↔ s.2 = false := by
  unfold bd
  cases s.2 <;> simp

/-- what comes out of some. -/
def SomeOut (w w' : World) (p : Nat) (b : ByteArray) (most hi : Int) (s : Pu.St) (e : Ending) : Prop :=
  ∃ v l, e = .returned v ∧ w'.ownsRow w.heap.size 3 1 v l.length (l.map (Value.int .i64)) ∧ l.length ≤ 255 ∧
    Ct w' p b (Pu.list b most hi s).2.1 (bd (Pu.list b most hi s).2) ∧ w.grownBy w' (some p) ∧ ((Pu.list b most hi s).2.2 = false → l = (Pu.list b most hi s).1)

set_option maxHeartbeats 1000000 in
theorem some_any (p : Nat) (b : ByteArray) (s : Pu.St) (most hi : Int) (w : World) (h : Ct w p b s.1 (bd s)) (hs : b.size ≤ maxLen) :
    Calls Try.prog 62 #[.pointer (some ⟨p, 0, none⟩), .int .i64 most, .int .i64 hi] w fun e w' => SomeOut w w' p b most hi s e := by
  obtain ⟨i0, hi0, hz0, hz1, hz2⟩ := info_parts Try.info3
  have hp := h.lt
  go_enter Try.func62, Try.ntmps62
  go_wp2_with fail
  refine (next_any p b s 0 most _ h hs).mono ?_
  rintro e w1 ⟨rfl, h1, hg1, hsz1⟩
  have HL : Hid (Pu.list b most hi s = Pu.nums b hi (Pu.number b 0 most s).2 (Pu.number b 0 most s).1.toNat) := rfl
  have hr := Pu.number_rng b 0 most s
  have HK : Hid ((Pu.number b 0 most s).2.2 = true → (Pu.number b 0 most s).1 = 0) := by
    intro hb
    have h0 := hb
    revert h0
    unfold Pu.number
    split
    · intro _; rfl
    · split
      · intro _; rfl
      · split
        · intro _; rfl
        · intro h0; simp at h0
  clear h hsz1
  generalize Pu.number b 0 most s = q at *
  obtain ⟨c, s1⟩ := q
  simp only at *
  obtain ⟨n, rfl⟩ := Int.eq_ofNat_of_zero_le hr.1
  have hn : n ≤ 255 := by omega
  clear hr
  go_wp2
  go_loopw [8] (fun v wr => ∃ k : Nat, k ≤ n ∧ wr.ownsRow w.heap.size 3 1 v k ((Pu.nums b hi s1 k).1.map (Value.int .i64)) ∧ Ct wr p b (Pu.nums b hi s1 k).2.1 (bd (Pu.nums b hi s1 k).2) ∧ w.grownBy wr (some p)) (fun v _ => n - lenOf v)
  case atStart => exact ⟨0, Nat.zero_le _, World.ownsRow_nil _ _ _ _, h1, hg1⟩
  case round =>
    obtain ⟨k, hk, hown, hrd, hgr⟩ := hrel
    clear h1 hg1
    obtain ⟨ao, cap, rfl⟩ := owns_shape hown
    have d2 := hrd.c2
    by_cases hlt : k < n ∧ (Pu.nums b hi s1 k).2.2 = false
    · obtain ⟨hkn, hfine⟩ := hlt
      have hbn := bd_neg.2 hfine
      go_wp2_with fail
      refine (next_any p b _ 0 hi wr hrd hs).mono ?_
      rintro e w2 ⟨rfl, hrd2, hg2, hsz2⟩
      have hown2 := owns_grown hown hg2 hp
      have HS : Hid (Pu.nums b hi s1 (k + 1) = ((Pu.nums b hi s1 k).1 ++ [(Pu.number b 0 hi (Pu.nums b hi s1 k).2).1], (Pu.number b 0 hi (Pu.nums b hi s1 k).2).2)) := rfl
      clear hown hrd hsz2 hfine hbn d2
      generalize Pu.number b 0 hi (Pu.nums b hi s1 k).2 = q at *
      obtain ⟨c, s2⟩ := q
      simp only at *
      go_wp2_with (at_builtin; refine wpList_append_own _ rfl _ _ 30 rfl w.heap.size 3 i0 (.int .i64 0) 1 8 Try.underlying30 hi0 hz0 hz1 hz2 rfl (by decide) _ _ _ rfl (hown2.alloc _) ⟨w2.heap.size, 0, none⟩ 1 1 [.int .i64 c] rfl rfl (cell_one_new _ _ _) ?c2 ?c3 ?c4 ?c5 ?_)
      case c2 => intro u hu; simp at hu; subst hu; rfl
      case c3 => unfold maxLen; omega
      case c4 => omega
      case c5 => have := hgr.size; have := hg2.size; simp only [World.size_alloc]; omega
      intro v' w3 hown' hgrow _
      have hgr' := grown_append rfl (grown_trans hgr hg2) (hown2.alloc _) (World.grownBy_alloc w2 _ (some p)) hgrow
      have hrd' : Ct w3 p b s2.1 (bd s2) := (hrd2.kept (World.grownBy_alloc w2 _ none) (by simp)).kept hgrow (fun e => by have := (hown2.lt p e.symm).1; omega)
      clear hown2 hgrow hrd2 hg2 hgr
      obtain ⟨ao', cap', rfl⟩ := owns_shape hown'
      go_wp2
      go_roundw
      case rel => exact ⟨k + 1, hkn, by rw [HS.out]; simpa using hown', by rw [HS.out]; exact hrd', hgr'⟩
      case measure => simp [lenOf]; omega
    · have fin : SomeOut w wr p b most hi s (.returned (.slice ao k cap)) := by
        have hlen := Pu.nums_len b hi s1 k
        refine ⟨_, (Pu.nums b hi s1 k).1, rfl, by rw [hlen]; exact hown, by omega, ?_, hgr, ?_⟩
        · rw [HL.out, Int.toNat_natCast]
          by_cases e : k = n
          · subst e; exact hrd
          · have hb : (Pu.nums b hi s1 k).2.2 = true := by
              cases hx : (Pu.nums b hi s1 k).2.2 with
              | true => rfl
              | false => exact absurd ⟨by omega, hx⟩ hlt
            rw [nums_stuck b hi s1 k hb n (by omega)]
            exact hrd
        · rw [HL.out, Int.toNat_natCast]
          intro hf
          by_cases e : k = n
          · subst e; rfl
          · have hb : (Pu.nums b hi s1 k).2.2 = true := by
              cases hx : (Pu.nums b hi s1 k).2.2 with
              | true => rfl
              | false => exact absurd ⟨by omega, hx⟩ hlt
            rw [nums_stuck b hi s1 k hb n (by omega), hb] at hf
            simp at hf
      have FIN : Hid _ := fin
      clear fin
      by_cases hkn : k < n
      · have hb : ¬ bd (Pu.nums b hi s1 k).2 < 0 := fun h0 => hlt ⟨hkn, bd_neg.1 h0⟩
        clear hlt
        go_wp2
        go_ret
        exact FIN.out
      · clear hlt
        go_wp2
        go_ret
        exact FIN.out

set_option maxHeartbeats 1000000 in
theorem least_any (op : Int) (w : World) (h0 : 0 ≤ op) (h1 : op ≤ 18) :
    Calls Try.prog 93 #[.int .i64 op] w fun e w' => e = .returned (.int .i64 (Pu.argLo op)) ∧ w' = w := by
  have hop : op = 0 ∨ op = 1 ∨ op = 2 ∨ op = 3 ∨ op = 4 ∨ op = 5 ∨ op = 6 ∨ op = 7 ∨ op = 8 ∨ op = 9 ∨ op = 10 ∨ op = 11 ∨ op = 12 ∨ op = 13 ∨ op = 14 ∨ op = 15 ∨ op = 16 ∨ op = 17 ∨ op = 18 := by omega
  rcases hop with rfl | rfl | rfl | rfl | rfl | rfl | rfl | rfl | rfl | rfl | rfl | rfl | rfl | rfl | rfl | rfl | rfl | rfl | rfl
  all_goals clear h0 h1
  all_goals (go_enter Try.func93, Try.ntmps93)
  all_goals go_wp2
  all_goals go_ret
  all_goals exact ⟨rfl, rfl⟩

set_option maxHeartbeats 2000000 in
theorem most_any (op pl ki fu n : Int) (w : World) (h0 : 0 ≤ op) (h1 : op ≤ 18) (hki : 0 ≤ ki ∧ ki ≤ 1000) (hfu : 0 ≤ fu ∧ fu ≤ 1000) (hpl : 0 ≤ pl ∧ pl ≤ 1000) (hn : 0 ≤ n ∧ n ≤ 1000) :
    Calls Try.prog 94 #[.int .i64 op, .int .i64 pl, .int .i64 ki, .int .i64 fu, .int .i64 n] w fun e w' => e = .returned (.int .i64 (Pu.argHi ki fu pl n op)) ∧ w' = w := by
  obtain ⟨ha0, ha1⟩ := hki
  obtain ⟨hb0, hb1⟩ := hfu
  obtain ⟨hc0, hc1⟩ := hpl
  obtain ⟨hd0, hd1⟩ := hn
  have hop : op = 0 ∨ op = 1 ∨ op = 2 ∨ op = 3 ∨ op = 4 ∨ op = 5 ∨ op = 6 ∨ op = 7 ∨ op = 8 ∨ op = 9 ∨ op = 10 ∨ op = 11 ∨ op = 12 ∨ op = 13 ∨ op = 14 ∨ op = 15 ∨ op = 16 ∨ op = 17 ∨ op = 18 := by omega
  rcases hop with rfl | rfl | rfl | rfl | rfl | rfl | rfl | rfl | rfl | rfl | rfl | rfl | rfl | rfl | rfl | rfl | rfl | rfl | rfl
  all_goals clear h0 h1
  all_goals (go_enter Try.func94, Try.ntmps94)
  all_goals go_wp2
  all_goals go_ret
  all_goals exact ⟨rfl, rfl⟩
end Go.Proofs.Ytjamgmbdilkbcaa
