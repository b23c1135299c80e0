import Derived.Test.YtjamgmbdilkbcaaLotChecked03
import Derived.Test.YtjamgmbdilkbcaaLotChecked05
/- Plain: what is read is what is written. -/
namespace Go.Proofs.Ytjamgmbdilkbcaa
namespace Pu

/-- what is left to read. -/
def rest (b : ByteArray) (s : St) : List UInt8 := b.data.toList.drop s.1

theorem byte_u8 (c : UInt8) : byte (c.toNat : Int) = c := by
  unfold byte
  have := UInt8.toNat_lt c
  have h : ((c.toNat : Int) % 256).toNat = c.toNat := by omega
  rw [h]
  exact UInt8.ofNat_toNat

theorem u8_byte (n : Int) (h0 : 0 ≤ n) (h1 : n ≤ 255) : ((byte n).toNat : Int) = n := by
  unfold byte
  rw [UInt8.toNat_ofNat']
  omega

theorem number_ok {b : ByteArray} {lo hi : Int} {s : St} (h : (number b lo hi s).2.2 = false) :
    s.2 = false ∧ rest b s = byte (number b lo hi s).1 :: rest b (number b lo hi s).2 ∧ lo ≤ (number b lo hi s).1 ∧ (number b lo hi s).1 ≤ hi ∧ 0 ≤ (number b lo hi s).1 ∧ (number b lo hi s).1 ≤ 255 := by
  have hrng := number_rng b lo hi s
  revert h hrng
  unfold number
  split
  · rename_i h1
    intro h; simp [h1] at h
  · rename_i h1
    split
    · intro h; simp at h
    · rename_i h2
      split
      · intro h; simp at h
      · rename_i h3
        intro _ hrng
        have hlt : s.1 < b.data.toList.length := by simp at h2 ⊢; exact h2
        refine ⟨by simpa using h1, ?_, by simp only; omega, by simp only; omega, hrng.1, hrng.2⟩
        simp only [rest]
        rw [List.drop_eq_getElem_cons hlt, byte_u8]
        congr 1
        rw [List.getD_eq_getElem?_getD, List.getElem?_eq_getElem hlt]
        rfl

theorem number_go {b : ByteArray} {lo hi : Int} {s : St} {n : Int} {t : List UInt8} (hs : s.2 = false) (hr : rest b s = byte n :: t) (h0 : 0 ≤ n) (h1 : n ≤ 255) (hlo : lo ≤ n) (hhi : n ≤ hi) :
    (number b lo hi s).1 = n ∧ (number b lo hi s).2.2 = false ∧ rest b (number b lo hi s).2 = t := by
  have hlt : s.1 < b.data.toList.length := by
    have := congrArg List.length hr
    simp only [rest, List.length_drop, List.length_cons] at this
    omega
  have hd := List.drop_eq_getElem_cons hlt
  unfold rest at hr
  rw [hr] at hd
  have hb : b.data.toList[s.1] = byte n := by injection hd with e _; exact e.symm
  have ht : t = b.data.toList.drop (s.1 + 1) := by injection hd
  have hg : ((b.data.toList.getD s.1 0).toNat : Int) = n := by
    rw [List.getD_eq_getElem?_getD, List.getElem?_eq_getElem hlt]
    simp only [Option.getD_some, hb]
    exact u8_byte n h0 h1
  have e : number b lo hi s = (n, (s.1 + 1, false)) := by
    unfold number
    rw [if_neg (by simp [hs]), if_neg (by simpa using hlt), hg, if_neg (by omega)]
  rw [e]
  exact ⟨rfl, rfl, ht.symm⟩

theorem nums_ok {b : ByteArray} {hi : Int} {s : St} : ∀ {k : Nat}, (nums b hi s k).2.2 = false →
    s.2 = false ∧ rest b s = (nums b hi s k).1.map byte ++ rest b (nums b hi s k).2 ∧ ∀ x ∈ (nums b hi s k).1, 0 ≤ x ∧ x ≤ hi
  | 0, h => ⟨h, by simp [nums], by simp [nums]⟩
  | k + 1, h => by
    have h1 := number_ok (b := b) (lo := 0) (hi := hi) (s := (nums b hi s k).2) h
    have h2 := nums_ok h1.1
    refine ⟨h2.1, ?_, ?_⟩
    · rw [h2.2.1, h1.2.1]
      simp [nums]
    · intro x hx
      simp only [nums, List.mem_append, List.mem_singleton] at hx
      rcases hx with hx | hx
      · exact h2.2.2 x hx
      · subst hx; exact ⟨h1.2.2.1, h1.2.2.2.1⟩

theorem nums_go {b : ByteArray} {hi : Int} (hhi : hi ≤ 255) {s : St} {t : List UInt8} (hs : s.2 = false) : ∀ (k : Nat) (l : List Int) (_ : k ≤ l.length) (_ : rest b s = l.map byte ++ t) (_ : ∀ x ∈ l, 0 ≤ x ∧ x ≤ hi),
    (nums b hi s k).1 = l.take k ∧ (nums b hi s k).2.2 = false ∧ rest b (nums b hi s k).2 = (l.drop k).map byte ++ t
  | 0, l, _, hr, _ => ⟨by simp [nums], hs, by simpa [nums] using hr⟩
  | k + 1, l, hk, hr, hl => by
    obtain ⟨h1, h2, h3⟩ := nums_go hhi hs k l (by omega) hr hl
    have hlt : k < l.length := by omega
    rw [List.drop_eq_getElem_cons hlt, List.map_cons, List.cons_append] at h3
    have hx := hl l[k] (List.getElem_mem hlt)
    obtain ⟨g1, g2, g3⟩ := number_go (lo := 0) (hi := hi) h2 h3 hx.1 (by omega) hx.1 hx.2
    refine ⟨?_, g2, g3⟩
    simp only [nums]
    rw [g1, h1, List.take_succ_eq_append_getElem hlt]

theorem list_ok {b : ByteArray} {most hi : Int} {s : St} (h : (list b most hi s).2.2 = false) :
    s.2 = false ∧ rest b s = wList (list b most hi s).1 ++ rest b (list b most hi s).2 ∧ isList (list b most hi s).1 most hi = true := by
  have h1 := nums_ok (b := b) (hi := hi) h
  have h2 := number_ok h1.1
  have hl : (list b most hi s).1.length = (number b 0 most s).1.toNat := nums_len _ _ _ _
  refine ⟨h2.1, ?_, ?_⟩
  · rw [h2.2.1, h1.2.1, wList, hl]
    have : ((number b 0 most s).1.toNat : Int) = (number b 0 most s).1 := by omega
    rw [this]
    rfl
  · simp only [isList, Bool.and_eq_true, decide_eq_true_eq, List.all_eq_true]
    refine ⟨by omega, fun x hx => h1.2.2 x hx⟩

theorem list_go {b : ByteArray} {most hi : Int} (hm : most ≤ 255) (hhi : hi ≤ 255) {s : St} {t : List UInt8} {l : List Int} (hs : s.2 = false) (hr : rest b s = wList l ++ t) (hl : isList l most hi = true) :
    (list b most hi s).1 = l ∧ (list b most hi s).2.2 = false ∧ rest b (list b most hi s).2 = t := by
  simp only [isList, Bool.and_eq_true, decide_eq_true_eq, List.all_eq_true] at hl
  obtain ⟨h1, h2⟩ := hl
  rw [wList, List.cons_append] at hr
  obtain ⟨g1, g2, g3⟩ := number_go (lo := 0) (hi := most) hs hr (by omega) (by omega) (by omega) h1
  have := nums_go (b := b) hhi g2 l.length l (Nat.le_refl _) g3 h2
  unfold list
  rw [g1, Int.toNat_natCast]
  simpa using this

theorem argLo_ge (op : Int) : 0 ≤ argLo op := by
  unfold argLo
  split <;> omega
theorem argHi_le (ki fu pl n op : Int) (hki : ki ≤ 255) (hfu : fu ≤ 255) (hpl : pl ≤ 255) (hn : n ≤ 255) : argHi ki fu pl n op ≤ 255 := by
  unfold argHi
  repeat' split
  all_goals omega

theorem wCode_snoc (l : List (Int × Int)) (x : Int × Int) : wCode (l ++ [x]) = wCode l ++ [byte x.1, byte x.2] := by simp [wCode]

theorem code_ok {b : ByteArray} {ki fu pl n : Int} {s : St} : ∀ {k : Nat}, (code b ki fu pl n s k).2.2 = false →
    s.2 = false ∧ rest b s = wCode (code b ki fu pl n s k).1 ++ rest b (code b ki fu pl n s k).2 ∧ isCode (code b ki fu pl n s k).1 ki fu pl n = true
  | 0, h => ⟨h, by simp [code, wCode], by simp [code, isCode]⟩
  | k + 1, h => by
    have h1 := number_ok h
    have h2 := number_ok h1.1
    have h3 := code_ok h2.1
    refine ⟨h3.1, ?_, ?_⟩
    · rw [h3.2.1, h2.2.1, h1.2.1]
      simp only [code, wCode_snoc, List.append_assoc, List.cons_append, List.nil_append]
    · have h4 := h3.2.2
      simp only [isCode, List.all_eq_true] at h4
      simp only [code, isCode, List.all_append, List.all_cons, List.all_nil, Bool.and_true, Bool.and_eq_true, List.all_eq_true]
      refine ⟨h4, ?_⟩
      simp only [isInstr, Bool.and_eq_true, decide_eq_true_eq]
      exact ⟨⟨⟨h2.2.2.1, h2.2.2.2.1⟩, h1.2.2.1⟩, h1.2.2.2.1⟩

theorem code_go {b : ByteArray} {ki fu pl n : Int} (hki : ki ≤ 255) (hfu : fu ≤ 255) (hpl : pl ≤ 255) (hn : n ≤ 255) {s : St} {t : List UInt8} (hs : s.2 = false) :
    ∀ (k : Nat) (l : List (Int × Int)) (_ : k ≤ l.length) (_ : rest b s = wCode l ++ t) (_ : isCode l ki fu pl n = true),
    (code b ki fu pl n s k).1 = l.take k ∧ (code b ki fu pl n s k).2.2 = false ∧ rest b (code b ki fu pl n s k).2 = wCode (l.drop k) ++ t
  | 0, l, _, hr, _ => ⟨by simp [code], hs, by simpa [code] using hr⟩
  | k + 1, l, hk, hr, hl => by
    obtain ⟨h1, h2, h3⟩ := code_go hki hfu hpl hn hs k l (by omega) hr hl
    have hlt : k < l.length := by omega
    have hx : isInstr ki fu pl n l[k] = true := by
      simp only [isCode, List.all_eq_true] at hl
      exact hl _ (List.getElem_mem hlt)
    simp only [isInstr, Bool.and_eq_true, decide_eq_true_eq] at hx
    obtain ⟨⟨⟨x1, x2⟩, x3⟩, x4⟩ := hx
    have e1 := argLo_ge l[k].1
    have e2 := argHi_le ki fu pl n l[k].1 hki hfu hpl hn
    rw [List.drop_eq_getElem_cons hlt] at h3
    simp only [wCode, List.flatMap_cons, List.cons_append, List.nil_append] at h3
    obtain ⟨g1, g2, g3⟩ := number_go (lo := 0) (hi := 18) h2 h3 x1 (by omega) x1 x2
    obtain ⟨f1, f2, f3⟩ := number_go (lo := argLo l[k].1) (hi := argHi ki fu pl n l[k].1) g2 g3 (by omega) (by omega) x3 x4
    refine ⟨?_, ?_, ?_⟩
    · simp only [code]
      rw [g1, f1, h1, List.take_succ_eq_append_getElem hlt]
    · simp only [code]
      rw [g1]; exact f2
    · simp only [code]
      rw [g1]; exact f3

theorem func_ok {b : ByteArray} {ki fu : Int} {s : St} (h : (func b ki fu s).2.2 = false) :
    s.2 = false ∧ rest b s = wFn (func b ki fu s).1 ++ rest b (func b ki fu s).2 ∧ isFn (func b ki fu s).1 ki fu = true := by
  have h1 := code_ok h
  have h2 := number_ok h1.1
  have h3 := list_ok h2.1
  have h4 := list_ok h3.1
  have h5 := list_ok h4.1
  have hcl : ∀ pl n s k, (code b ki fu pl n s k).1.length = k := fun pl n s k => code_len _ _ _ _ _ _ _
  refine ⟨h5.1, ?_, ?_⟩
  · rw [h5.2.1, h4.2.1, h3.2.1, h2.2.1, h1.2.1]
    simp only [func, wFn, hcl, List.append_assoc, List.cons_append]
    rw [Int.toNat_of_nonneg h2.2.2.2.2.1]
  · simp only [func, isFn, Bool.and_eq_true, decide_eq_true_eq, hcl]
    refine ⟨h5.2.2, h4.2.2, h3.2.2, by omega, by omega, ?_⟩
    rw [Int.toNat_of_nonneg h2.2.2.2.2.1]
    exact h1.2.2

theorem func_go {b : ByteArray} {ki fu : Int} (hki : ki ≤ 255) (hfu : fu ≤ 255) {s : St} {t : List UInt8} {f : Fn} (hs : s.2 = false) (hr : rest b s = wFn f ++ t) (hf : isFn f ki fu = true) :
    (func b ki fu s).1 = f ∧ (func b ki fu s).2.2 = false ∧ rest b (func b ki fu s).2 = t := by
  simp only [isFn, Bool.and_eq_true, decide_eq_true_eq] at hf
  obtain ⟨f1, f2, f3, f4, f5, f6⟩ := hf
  have n1 : (f.params.length : Int) ≤ 4 := by simp only [isList, Bool.and_eq_true, decide_eq_true_eq] at f1; exact f1.1
  have n3 : (f.locals.length : Int) ≤ 4 := by simp only [isList, Bool.and_eq_true, decide_eq_true_eq] at f3; exact f3.1
  simp only [wFn, List.append_assoc] at hr
  obtain ⟨a1, a2, a3⟩ := list_go (most := 4) (by omega) hki hs hr f1
  obtain ⟨b1, b2, b3⟩ := list_go (most := 3) (by omega) hki a2 a3 f2
  obtain ⟨c1, c2, c3⟩ := list_go (most := 4) (by omega) hki b2 b3 f3
  rw [List.cons_append] at c3
  obtain ⟨d1, d2, d3⟩ := number_go (lo := 1) (hi := 100) c2 c3 (by omega) (by omega) (by omega) (by omega)
  obtain ⟨e1, e2, e3⟩ := code_go (b := b) (n := f.code.length) hki hfu (pl := (f.params.length : Int) + (f.locals.length : Int)) (by omega) (by omega) d2 f.code.length f.code (Nat.le_refl _) d3 f6
  simp only [func]
  rw [a1, b1, c1, d1, Int.toNat_natCast]
  refine ⟨?_, e2, by simpa [wCode] using e3⟩
  rw [e1, List.take_of_length_le (Nat.le_refl _)]

theorem wFns_snoc (l : List Fn) (x : Fn) : wFns (l ++ [x]) = wFns l ++ wFn x := by simp [wFns]

theorem fns_ok {b : ByteArray} {ki fu : Int} {s : St} : ∀ {k : Nat}, (fns b ki fu s k).2.2 = false →
    s.2 = false ∧ rest b s = wFns (fns b ki fu s k).1 ++ rest b (fns b ki fu s k).2 ∧ ∀ f ∈ (fns b ki fu s k).1, isFn f ki fu = true
  | 0, h => ⟨h, by simp [fns, wFns], by simp [fns]⟩
  | k + 1, h => by
    have h1 := func_ok h
    have h2 := fns_ok h1.1
    refine ⟨h2.1, ?_, ?_⟩
    · rw [h2.2.1, h1.2.1]
      simp only [fns, wFns_snoc, List.append_assoc]
    · intro f hf
      simp only [fns, List.mem_append, List.mem_singleton] at hf
      rcases hf with hf | hf
      · exact h2.2.2 f hf
      · subst hf; exact h1.2.2

theorem fns_go {b : ByteArray} {ki fu : Int} (hki : ki ≤ 255) (hfu : fu ≤ 255) {s : St} {t : List UInt8} (hs : s.2 = false) :
    ∀ (k : Nat) (l : List Fn) (_ : k ≤ l.length) (_ : rest b s = wFns l ++ t) (_ : ∀ f ∈ l, isFn f ki fu = true),
    (fns b ki fu s k).1 = l.take k ∧ (fns b ki fu s k).2.2 = false ∧ rest b (fns b ki fu s k).2 = wFns (l.drop k) ++ t
  | 0, l, _, hr, _ => ⟨by simp [fns], hs, by simpa [fns] using hr⟩
  | k + 1, l, hk, hr, hl => by
    obtain ⟨h1, h2, h3⟩ := fns_go hki hfu hs k l (by omega) hr hl
    have hlt : k < l.length := by omega
    rw [List.drop_eq_getElem_cons hlt] at h3
    simp only [wFns, List.flatMap_cons, List.append_assoc] at h3
    obtain ⟨g1, g2, g3⟩ := func_go hki hfu h2 h3 (hl _ (List.getElem_mem hlt))
    refine ⟨?_, g2, g3⟩
    simp only [fns]
    rw [g1, h1, List.take_succ_eq_append_getElem hlt]

theorem module_ok {b : ByteArray} (h : (module b).2.2 = false) : b.data.toList = wMd (module b).1 ++ rest b (module b).2 ∧ isMd (module b).1 = true := by
  have h1 := fns_ok h
  have h2 := number_ok h1.1
  have h3 := list_ok h2.1
  have h4 := number_ok h3.1
  have h5 := number_ok h4.1
  have hfl : ∀ ki fu s k, (fns b ki fu s k).1.length = k := fun ki fu s k => fns_len _ _ _ _ _
  constructor
  · have e : b.data.toList = rest b (0, false) := by simp [rest]
    have e5 : byte (number b 67 67 (0, false)).1 = 67 := by
      have : (number b 67 67 (0, false)).1 = 67 := by omega
      rw [this]; decide
    have e4 : byte (number b 70 70 (number b 67 67 (0, false)).2).1 = 70 := by
      have : (number b 70 70 (number b 67 67 (0, false)).2).1 = 70 := by omega
      rw [this]; decide
    rw [e, h5.2.1, h4.2.1, h3.2.1, h2.2.1, h1.2.1]
    simp only [module, wMd, hfl, List.append_assoc, List.cons_append, e5, e4]
    rw [Int.toNat_of_nonneg h2.2.2.2.2.1]
  · simp only [module, isMd, Bool.and_eq_true, decide_eq_true_eq, List.all_eq_true, hfl]
    refine ⟨h3.2.2, by omega, by omega, fun f hf => ?_⟩
    rw [Int.toNat_of_nonneg h2.2.2.2.2.1]
    exact h1.2.2 f hf

theorem module_go {b : ByteArray} {t : List UInt8} {m : Md} (hr : b.data.toList = wMd m ++ t) (hm : isMd m = true) : (module b).1 = m ∧ (module b).2.2 = false ∧ rest b (module b).2 = t := by
  simp only [isMd, Bool.and_eq_true, decide_eq_true_eq, List.all_eq_true] at hm
  obtain ⟨m1, m2, m3, m4⟩ := hm
  have n1 : (m.kinds.length : Int) ≤ 6 := by simp only [isList, Bool.and_eq_true, decide_eq_true_eq] at m1; exact m1.1
  have e : rest b (0, false) = byte 67 :: (byte 70 :: (wList m.kinds ++ (byte m.funcs.length :: (wFns m.funcs ++ t)))) := by
    have : rest b (0, false) = b.data.toList := by simp [rest]
    rw [this, hr, show byte 67 = 67 from by decide, show byte 70 = 70 from by decide]
    simp only [wMd, List.append_assoc, List.cons_append]
  obtain ⟨a1, a2, a3⟩ := number_go (lo := 67) (hi := 67) (s := (0, false)) rfl e (by omega) (by omega) (by omega) (by omega)
  obtain ⟨b1, b2, b3⟩ := number_go (lo := 70) (hi := 70) a2 a3 (by omega) (by omega) (by omega) (by omega)
  obtain ⟨c1, c2, c3⟩ := list_go (most := 6) (hi := 3) (by omega) (by omega) b2 b3 m1
  obtain ⟨d1, d2, d3⟩ := number_go (lo := 1) (hi := 8) c2 c3 (by omega) (by omega) (by omega) (by omega)
  obtain ⟨e1, e2, e3⟩ := fns_go (ki := m.kinds.length) (fu := m.funcs.length) (by omega) (by omega) d2 m.funcs.length m.funcs (Nat.le_refl _) d3 m4
  simp only [module]
  rw [c1, d1, Int.toNat_natCast]
  refine ⟨?_, e2, by simpa [wFns] using e3⟩
  rw [e1, List.take_of_length_le (Nat.le_refl _)]

/-- bytes that are read are written as they were. -/
theorem canon {b : ByteArray} (h : (decode b).2.1 = 0) : encode (decode b).1 = (b.data.toList, 0) := by
  revert h
  unfold decode
  split
  · intro h; simp at h
  · rename_i h1
    simp only
    split
    · intro h; simp at h
    · rename_i h2
      intro _
      have h3 : ¬ (module b).2.1 < b.size := by
        intro hc; simp [atEnd, hc] at h2
      have h4 : (module b).2.2 = false := by
        simp only [atEnd, h3, if_false] at h2; simpa using h2
      obtain ⟨k1, k2⟩ := module_ok h4
      have hn : rest b (module b).2 = [] := by
        simp only [rest, List.drop_eq_nil_iff]
        simpa using h3
      rw [hn, List.append_nil] at k1
      show encode (module b).1 = _
      unfold encode
      rw [if_pos k2, ← k1, if_neg (by simpa using h1)]

/-- a module that is written is read again as it was. -/
theorem back {m : Md} (h : (encode m).2 = 0) : decode ⟨(encode m).1.toArray⟩ = (m, 0, 0) ∧ (encode m).1.length ≤ 1500 := by
  revert h
  unfold encode
  split
  · rename_i h1
    split
    · intro h; simp at h
    · rename_i h2
      intro _
      have e : (ByteArray.mk (wMd m).toArray).data.toList = wMd m ++ [] := by simp
      have hsz : (ByteArray.mk (wMd m).toArray).size = (wMd m).length := by simp [ByteArray.size]
      obtain ⟨g1, g2, g3⟩ := module_go e h1
      have hle : ¬ (module ⟨(wMd m).toArray⟩).2.1 < (ByteArray.mk (wMd m).toArray).size := by
        simp only [rest, List.drop_eq_nil_iff] at g3
        rw [hsz]
        simpa using g3
      refine ⟨?_, by simp only; omega⟩
      unfold decode
      rw [if_neg (by rw [hsz]; exact h2)]
      simp only [atEnd, hle, if_false, g2, g1]
      simp
  · intro h; simp at h

/-- with an error nothing is written. -/
theorem encode_err (m : Md) : ((encode m).2 ≠ 0 → (encode m).1 = []) ∧ ((encode m).2 = 0 ∨ (encode m).2 = 1 ∨ (encode m).2 = 2) := by
  unfold encode
  split
  · split
    · exact ⟨fun _ => rfl, .inr (.inl rfl)⟩
    · exact ⟨fun h => absurd rfl h, .inl rfl⟩
  · exact ⟨fun _ => rfl, .inr (.inr rfl)⟩

end Pu
end Go.Proofs.Ytjamgmbdilkbcaa

/- A module that was read can be written: the bridge; the bank. -/
namespace Go.Proofs.Ytjamgmbdilkbcaa
open Go.RowKit

theorem addr_add (g j : Nat) : (⟨g, 0, none⟩ : Addr).add j = ⟨g, 0 + j, none⟩ := by unfold Addr.add; split <;> simp_all

theorem owns_len {w : World} {B e size n : Nat} {v : Value} {xs : List Value} (h : w.ownsRow B e size v n xs) : n ≤ maxLen := by
  rcases h.2 with ⟨_, rfl⟩ | ⟨g, cap, cur, _, _, _, h1, h2, _⟩
  · exact Nat.zero_le _
  · exact Nat.le_trans h1 h2

theorem owns_ints {w : World} {B : Nat} {v : Value} {l : List Int} (h : w.ownsRow B 3 1 v l.length (l.map (Value.int .i64))) : IntsR w w.heap.size v l := by
  have h' := h
  rcases h.2 with ⟨rfl, h0⟩ | ⟨g, cap, cur, rfl, hB, hg, _⟩
  · have : l = [] := List.eq_nil_of_length_eq_zero h0
    subst this
    exact ⟨none, 0, 0, 0, rfl, fun h => absurd h (by simp), fun j hj => absurd hj (by simp)⟩
  · refine ⟨some ⟨g, 0, none⟩, cap, g, 0, rfl, fun _ => ⟨rfl, (Array.getElem?_eq_some_iff.1 hg).1⟩, fun j hj => ?_⟩
    have := h'.cells (g := g) rfl j (.int .i64 (l.getD j 0)) (by simp [List.getD_eq_getElem?_getD, hj])
    rwa [addr_add] at this

theorem cc_get (l : List (Int × Int)) : ∀ j, j < l.length → (cc l)[j * 2]? = some (.int .i64 (l.getD j (0, 0)).1) ∧ (cc l)[j * 2 + 1]? = some (.int .i64 (l.getD j (0, 0)).2) := by
  induction l with
  | nil => intro j hj; simp at hj
  | cons a l ih =>
    intro j hj
    have e : cc (a :: l) = .int .i64 a.1 :: .int .i64 a.2 :: cc l := by simp [cc]
    rw [e]
    cases j with
    | zero => simp
    | succ j =>
      have := ih j (by simpa using hj)
      rw [show (j + 1) * 2 = j * 2 + 1 + 1 from by omega]
      simpa using this

theorem owns_code {w : World} {B : Nat} {v : Value} {l : List (Int × Int)} (h : w.ownsRow B 80 2 v l.length (cc l)) : CodeR w w.heap.size v l := by
  have h' := h
  rcases h.2 with ⟨rfl, h0⟩ | ⟨g, cap, cur, rfl, hB, hg, _⟩
  · have : l = [] := List.eq_nil_of_length_eq_zero h0
    subst this
    exact ⟨none, 0, 0, 0, rfl, fun h => absurd h (by simp), fun j hj => absurd hj (by simp)⟩
  · refine ⟨some ⟨g, 0, none⟩, cap, g, 0, rfl, fun _ => ⟨rfl, (Array.getElem?_eq_some_iff.1 hg).1⟩, fun j hj => ?_⟩
    have hc := cc_get l j hj
    have h1 := h'.cells (g := g) rfl _ _ hc.1
    have h2 := h'.cells (g := g) rfl _ _ hc.2
    rw [addr_add] at h1 h2
    exact ⟨h1, by simpa [Nat.add_assoc] using h2⟩

theorem FnAt.reads {w : World} {B : Nat} {f : Pu.Fn} {x : FV} (h : FnAt w B f x) : FnR w w.heap.size x f :=
  ⟨owns_ints h.p, owns_ints h.r, owns_ints h.l, owns_code h.c, owns_len h.p, owns_len h.r, owns_len h.l, owns_len h.c⟩

theorem FnsAt.get {w : World} {B : Nat} : ∀ {fs : List Pu.Fn} {xs : List FV}, FnsAt w B fs xs → ∀ j, j < fs.length → ∃ x, (fc xs)[j * 4]? = some x.p ∧ (fc xs)[j * 4 + 1]? = some x.r ∧ (fc xs)[j * 4 + 2]? = some x.l ∧ (fc xs)[j * 4 + 3]? = some x.c ∧ FnAt w B (fs.getD j ⟨[], [], [], []⟩) x
  | [], [], _ => fun j hj => absurd hj (by simp)
  | f :: fs, x :: xs, h => fun j hj => by
    rw [fc_cons]
    cases j with
    | zero => exact ⟨x, by simp [FV.cells], by simp [FV.cells], by simp [FV.cells], by simp [FV.cells], h.1⟩
    | succ j =>
      obtain ⟨y, g0, g1, g2, g3, hy⟩ := FnsAt.get h.2 j (by simpa using hj)
      refine ⟨y, ?_, ?_, ?_, ?_, by simpa using hy⟩
      · rw [show (j + 1) * 4 = j * 4 + 1 + 1 + 1 + 1 from by omega]; simpa [FV.cells] using g0
      · rw [show (j + 1) * 4 + 1 = j * 4 + 1 + 1 + 1 + 1 + 1 from by omega]; simpa [FV.cells] using g1
      · rw [show (j + 1) * 4 + 2 = j * 4 + 2 + 1 + 1 + 1 + 1 from by omega]; simpa [FV.cells] using g2
      · rw [show (j + 1) * 4 + 3 = j * 4 + 3 + 1 + 1 + 1 + 1 from by omega]; simpa [FV.cells] using g3
  | [], _ :: _, h => h.elim
  | _ :: _, [], h => h.elim

theorem mdAt_reads {w : World} {B : Nat} {m : Pu.Md} {k v : Value} {xs : List FV} (h : MdAt w B m k v xs) : MdR w w.heap.size k v m := by
  refine ⟨owns_ints h.hk, ?_, owns_len h.hk, owns_len h.hv⟩
  have hv := h.hv
  rcases hv.2 with ⟨rfl, h0⟩ | ⟨g, cap, cur, rfl, hB, hg, _⟩
  · exact ⟨none, 0, 0, 0, by rw [h0], fun h => absurd h (by omega), fun j hj => absurd hj (by omega)⟩
  · refine ⟨some ⟨g, 0, none⟩, cap, g, 0, rfl, fun _ => ⟨rfl, (Array.getElem?_eq_some_iff.1 hg).1⟩, fun j hj => ?_⟩
    obtain ⟨x, g0, g1, g2, g3, hx⟩ := h.hf.get j hj
    have k0 := hv.cells (g := g) rfl _ _ g0
    have k1 := hv.cells (g := g) rfl _ _ g1
    have k2 := hv.cells (g := g) rfl _ _ g2
    have k3 := hv.cells (g := g) rfl _ _ g3
    rw [addr_add] at k0 k1 k2 k3
    exact ⟨x, k0, by simpa [Nat.add_assoc] using k1, by simpa [Nat.add_assoc] using k2, by simpa [Nat.add_assoc] using k3, hx.reads⟩

abbrev bank : ByteArray := ⟨#[67, 70, 1, 0, 4, 1, 0, 1, 1, 0, 3, 9, 0, 12, 1, 0, 0, 2, 1, 0, 0, 0, 4, 9, 0, 9, 1, 16, 1, 0, 0, 0, 1, 1, 0, 2, 15, 1, 0, 0, 1, 1, 1, 0, 0, 3, 9, 0, 13, 1, 0, 0]⟩

theorem bank_dec : (Pu.decode bank).2 = (0, 0) ∧ (Pu.decode bank).1.kinds.length = 1 ∧ (Pu.decode bank).1.funcs.length = 4 := by
  decide +kernel

set_option maxRecDepth 100000 in
set_option maxHeartbeats 1000000 in
theorem awake_any (w : World) :
    Calls Try.prog 14 #[] w fun e w' => e = .returned (.bool true) ∧ Below w.heap.size w w' := by
  have hbd := bank_dec
  have hcan := Pu.canon (b := bank) (by rw [bank_dec.1])
  have HC : Hid _ := hcan
  have HB : Hid _ := hbd
  clear hcan hbd
  go_enter Try.func14, Try.ntmps14
  go_wp2_with fail
  refine (decode_any bank _ (by decide)).mono ?_
  rintro e w1 ⟨ho, hb⟩
  rcases ho with ⟨k, v, xs, rfl, hm, hd⟩ | ⟨rfl, hd1, hd2⟩
  · have hr := mdAt_reads hm
    obtain ⟨a1, c1, hk⟩ := owns_shape hm.hk
    obtain ⟨a2, c2, hv⟩ := owns_shape hm.hv
    rw [HB.out.2.1] at hk
    rw [HB.out.2.2] at hv
    subst hk hv
    clear hm hd HB
    generalize (Pu.decode bank).1 = m at *
    have hk0 : F2 (w1.alloc (.cells #[.slice a1 1 c1, .slice a2 4 c2] 33)) w1.heap.size 33 (.slice a1 1 c1) (.slice a2 4 c2) := heap_alloc_new w1 _
    have hb0 := (Below.refl w1.heap.size w1).alloc (Nat.le_refl _) (.cells #[.slice a1 1 c1, .slice a2 4 c2] 33)
    have hr0 := (hr.below hb0).wide (B' := (w1.alloc (.cells #[.slice a1 1 c1, .slice a2 4 c2] 33)).heap.size) (by simp)
    have hb2 := hb.alloc hb.size (.cells #[.slice a1 1 c1, .slice a2 4 c2] 33)
    have d0 := hk0.c0
    have d1 := hk0.c1
    have hz := hb.size
    clear hr hb0 hk0 hb
    go_wp2_with fail
    refine (encode_any m _ _ _ hr0).mono ?_
    rw [HC.out]
    rintro e w2 ⟨rfl, hb⟩
    have hb3 := hb2.trans (hb.mono (by simp only [World.size_alloc]; omega))
    clear hr0 hb2 hb d0 d1
    go_wp2
    go_ret
    exact ⟨rfl, hb3⟩
  · exact absurd (by rw [HB.out.1]) hd2

set_option maxHeartbeats 1000000 in
theorem canon_walk (b : ByteArray) (w : World) (hs : b.size ≤ maxLen) :
    Calls Try.prog 5 #[.string b] w fun e w' => e = .returned (.bool true) ∧ Below w.heap.size w w' := by
  have HC : Hid ((Pu.decode b).2.1 = 0 → Pu.encode (Pu.decode b).1 = (b.data.toList, 0)) := Pu.canon
  go_enter Try.func5, Try.ntmps5
  go_wp2_with fail
  refine (awake_any _).mono ?_
  rintro e w1 ⟨rfl, hb1⟩
  go_wp2_with fail
  refine (decode_any b _ hs).mono ?_
  rintro e w2 ⟨ho, hb⟩
  have hb2 := hb1.trans (hb.mono hb1.size)
  have hz1 := hb1.size
  have hz2 := hb2.size
  clear hb1 hb
  rcases ho with ⟨k, v, xs, rfl, hm, hd⟩ | ⟨rfl, hd1, hd2⟩
  · have hr := mdAt_reads hm
    obtain ⟨a1, c1, rfl⟩ := owns_shape hm.hk
    obtain ⟨a2, c2, rfl⟩ := owns_shape hm.hv
    have HE : Hid _ := HC.out (by rw [hd])
    clear HC hm hd
    generalize (Pu.decode b).1 = m at *
    have hk0 : F2 (w2.alloc (.cells #[.slice a1 m.kinds.length c1, .slice a2 m.funcs.length c2] 33)) w2.heap.size 33 (.slice a1 m.kinds.length c1) (.slice a2 m.funcs.length c2) := heap_alloc_new w2 _
    have hb0 := (Below.refl w2.heap.size w2).alloc (Nat.le_refl _) (.cells #[.slice a1 m.kinds.length c1, .slice a2 m.funcs.length c2] 33)
    have hr0 := (hr.below hb0).wide (B' := (w2.alloc (.cells #[.slice a1 m.kinds.length c1, .slice a2 m.funcs.length c2] 33)).heap.size) (by simp)
    have hb3 := hb2.alloc hz2 (.cells #[.slice a1 m.kinds.length c1, .slice a2 m.funcs.length c2] 33)
    have d0 := hk0.c0
    have d1 := hk0.c1
    clear hr hb0 hk0 hb2
    go_wp2_with fail
    refine (encode_any m _ _ _ hr0).mono ?_
    rw [HE.out]
    have hbe : (⟨b.data.toList.toArray⟩ : ByteArray) = b := by cases b; simp
    simp only [hbe]
    rintro e w3 ⟨rfl, hb⟩
    have hb4 := hb3.trans (hb.mono (by simp only [World.size_alloc]; omega))
    clear hr0 hb3 hb d0 d1 hbe
    go_wp2
    go_ret
    exact ⟨rfl, hb4⟩
  · have hne : ((Pu.decode b).2.1 != 0) = true := by simpa using hd2
    clear hd1 hd2 HC
    generalize (Pu.decode b).2.1 = x at *
    generalize (Pu.decode b).2.2 = y at *
    have hb3 := hb2.alloc hz2 (.cells #[.slice none 0 0, .slice none 0 0] 33)
    go_wp2
    go_ret
    exact ⟨rfl, hb3⟩
end Go.Proofs.Ytjamgmbdilkbcaa
