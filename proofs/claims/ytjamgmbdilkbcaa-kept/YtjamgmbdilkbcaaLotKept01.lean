import Derived.WalkKit
/- Plain functions: bytes read number by number, and written. No program here. -/
namespace Go.Proofs.Ytjamgmbdilkbcaa
namespace Pu

/-- where the reader stands: the place, and whether a byte was bad. -/
abbrev St := Nat × Bool

/-- one number from lo to hi. -/
def number (b : ByteArray) (lo hi : Int) (s : St) : Int × St :=
  if s.2 = true then (0, s)
  else if b.size ≤ s.1 then (0, (s.1, true))
  else if ((b.data.toList.getD s.1 0).toNat : Int) < lo ∨ hi < ((b.data.toList.getD s.1 0).toNat : Int) then (0, (s.1, true))
  else (((b.data.toList.getD s.1 0).toNat : Int), (s.1 + 1, false))

theorem number_le (b : ByteArray) (lo hi : Int) (s : St) (h : s.1 ≤ b.size) : (number b lo hi s).2.1 ≤ b.size := by
  unfold number
  split
  · exact h
  · split
    · exact h
    · split
      · exact h
      · show s.1 + 1 ≤ b.size
        omega

theorem number_rng (b : ByteArray) (lo hi : Int) (s : St) : 0 ≤ (number b lo hi s).1 ∧ (number b lo hi s).1 ≤ 255 := by
  unfold number
  have h := UInt8.toNat_lt (b.data.toList.getD s.1 0)
  split
  · exact ⟨Int.le_refl _, by show (0:Int) ≤ 255; decide⟩
  · split
    · exact ⟨Int.le_refl _, by show (0:Int) ≤ 255; decide⟩
    · split
      · exact ⟨Int.le_refl _, by show (0:Int) ≤ 255; decide⟩
      · constructor
        · show (0 : Int) ≤ ((b.data.toList.getD s.1 0).toNat : Int); omega
        · show ((b.data.toList.getD s.1 0).toNat : Int) ≤ 255; omega

theorem number_hi (b : ByteArray) (lo hi : Int) (s : St) (h : 0 ≤ hi) : (number b lo hi s).1 ≤ hi := by
  unfold number
  split
  · exact h
  · split
    · exact h
    · split
      · exact h
      · rename_i h3
        show ((b.data.toList.getD s.1 0).toNat : Int) ≤ hi
        omega

/-- numbers from 0 to hi, one behind the other: k of them. -/
def nums (b : ByteArray) (hi : Int) (s : St) : Nat → List Int × St
  | 0 => ([], s)
  | k + 1 => ((nums b hi s k).1 ++ [(number b 0 hi (nums b hi s k).2).1], (number b 0 hi (nums b hi s k).2).2)

theorem nums_len (b : ByteArray) (hi : Int) (s : St) (k : Nat) : (nums b hi s k).1.length = k := by
  induction k with
  | zero => rfl
  | succ k ih => simp [nums, ih]

theorem nums_le (b : ByteArray) (hi : Int) (s : St) (h : s.1 ≤ b.size) (k : Nat) : (nums b hi s k).2.1 ≤ b.size := by
  induction k with
  | zero => exact h
  | succ k ih => exact number_le _ _ _ _ ih

/-- a count up to most, and so many numbers up to hi. -/
def list (b : ByteArray) (most hi : Int) (s : St) : List Int × St :=
  nums b hi (number b 0 most s).2 (number b 0 most s).1.toNat

/-- the least and the greatest argument of an operation. -/
def argLo (op : Int) : Int := if op = 12 ∨ op = 13 ∨ op = 15 ∨ op = 16 ∨ op = 17 then 1 else 0
def argHi (kinds funcs places code : Int) (op : Int) : Int :=
  if op = 1 ∨ op = 18 then 255
  else if op = 6 ∨ op = 7 then code - 1
  else if op = 8 ∨ op = 9 ∨ op = 10 then places - 1
  else if op = 12 ∨ op = 13 ∨ op = 15 ∨ op = 16 ∨ op = 17 then kinds
  else if op = 14 then funcs - 1
  else 0

/-- the instructions: k of them, in a function of so many places and n instructions, a module of so many kinds and functions. -/
def code (b : ByteArray) (kinds funcs places n : Int) (s : St) : Nat → List (Int × Int) × St
  | 0 => ([], s)
  | k + 1 =>
    ((code b kinds funcs places n s k).1 ++ [((number b 0 18 (code b kinds funcs places n s k).2).1,
        (number b (argLo (number b 0 18 (code b kinds funcs places n s k).2).1) (argHi kinds funcs places n (number b 0 18 (code b kinds funcs places n s k).2).1) (number b 0 18 (code b kinds funcs places n s k).2).2).1)],
      (number b (argLo (number b 0 18 (code b kinds funcs places n s k).2).1) (argHi kinds funcs places n (number b 0 18 (code b kinds funcs places n s k).2).1) (number b 0 18 (code b kinds funcs places n s k).2).2).2)

theorem code_len (b : ByteArray) (kinds funcs places n : Int) (s : St) (k : Nat) : (code b kinds funcs places n s k).1.length = k := by
  induction k with
  | zero => rfl
  | succ k ih => simp [code, ih]

/-- a function, a module. -/
structure Fn where
  params : List Int
  results : List Int
  locals : List Int
  code : List (Int × Int)

structure Md where
  kinds : List Int
  funcs : List Fn

def func (b : ByteArray) (kinds funcs : Int) (s : St) : Fn × St :=
  let p := list b 4 kinds s
  let r := list b 3 kinds p.2
  let l := list b 4 kinds r.2
  let n := number b 1 100 l.2
  let c := code b kinds funcs ((p.1.length : Int) + l.1.length) n.1 n.2 n.1.toNat
  (⟨p.1, r.1, l.1, c.1⟩, c.2)

def fns (b : ByteArray) (kinds funcs : Int) (s : St) : Nat → List Fn × St
  | 0 => ([], s)
  | k + 1 => ((fns b kinds funcs s k).1 ++ [(func b kinds funcs (fns b kinds funcs s k).2).1], (func b kinds funcs (fns b kinds funcs s k).2).2)

theorem fns_len (b : ByteArray) (kinds funcs : Int) (s : St) (k : Nat) : (fns b kinds funcs s k).1.length = k := by
  induction k with
  | zero => rfl
  | succ k ih => simp [fns, ih]

def module (b : ByteArray) : Md × St :=
  let s1 := (number b 67 67 (0, false)).2
  let s2 := (number b 70 70 s1).2
  let ks := list b 6 3 s2
  let n := number b 1 8 ks.2
  let fs := fns b ks.1.length n.1 n.2 n.1.toNat
  (⟨ks.1, fs.1⟩, fs.2)

def atEnd (b : ByteArray) (s : St) : St := if s.1 < b.size then (s.1, true) else s

/-- Decode: the module, the error, the place. -/
def decode (b : ByteArray) : Md × Int × Int :=
  if 1500 < b.size then (⟨[], []⟩, 1, 0)
  else
    let m := module b
    let s := atEnd b m.2
    if s.2 = true then (⟨[], []⟩, 2, s.1) else (m.1, 0, 0)

end Pu
end Go.Proofs.Ytjamgmbdilkbcaa

/- Soundness, as plain functions. No program here. -/
namespace Go.Proofs.Ytjamgmbdilkbcaa
namespace Fl

/-- a state: the kinds on the stack, from the lowest on; which of the eight places are full. -/
structure S where
  stk : List Int
  full : List Bool
  deriving DecidableEq

def putS (k : Int) (t : S) : Option S := if t.stk.length < 16 then some ⟨t.stk ++ [k], t.full⟩ else none
def takeS (k : Int) (t : S) : Option S := if t.stk.getLast? = some k then some ⟨t.stk.dropLast, t.full⟩ else none

/-- may a kind be copied (1), dropped (2)? -/
def may (m : Pu.Md) (k what : Int) : Bool := if 1 ≤ k ∧ k ≤ m.kinds.length then decide (m.kinds.getD (k - 1).toNat 0 = 3 ∨ m.kinds.getD (k - 1).toNat 0 = what) else true

def dropS (m : Pu.Md) (t : S) : Option S := if t.stk ≠ [] ∧ may m (t.stk.getLast?.getD 0) 2 = true then some ⟨t.stk.dropLast, t.full⟩ else none

/-- the kinds of a function's places. -/
def places (f : Pu.Fn) : List Int := f.params ++ f.locals

/-- may what a place holds, if anything, be lost? -/
def canLose (m : Pu.Md) (f : Pu.Fn) (t : S) (i : Nat) : Bool := !(t.full.getD i false) || may m ((places f).getD i 0) 2

def takesS : List Int → S → Option S
  | [], t => some t
  | k :: l, t => (takeS k t).bind (takesS l)
def putsS : List Int → S → Option S
  | [], t => some t
  | k :: l, t => (putS k t).bind (putsS l)

def retS (m : Pu.Md) (f : Pu.Fn) (t : S) : Option S := if t.stk = f.results ∧ ∀ i, i < (places f).length → canLose m f t i = true then some t else none

def copyS (m : Pu.Md) (f : Pu.Fn) (a : Nat) (t : S) : Option S := if t.full.getD a false = true ∧ may m ((places f).getD a 0) 1 = true then putS ((places f).getD a 0) t else none
def moveS (f : Pu.Fn) (a : Nat) (t : S) : Option S := if t.full.getD a false = true then putS ((places f).getD a 0) ⟨t.stk, t.full.set a false⟩ else none
def keepS (m : Pu.Md) (f : Pu.Fn) (a : Nat) (t : S) : Option S := (takeS ((places f).getD a 0) t).bind fun u => if canLose m f u a = true then some ⟨u.stk, u.full.set a true⟩ else none

def callS (g : Pu.Fn) (t : S) : Option S := (takesS g.params.reverse t).bind (putsS g.results)

/-- the state behind an instruction, wherever it leads; none: it does not go well. -/
def after (m : Pu.Md) (f : Pu.Fn) (x : Int × Int) (t : S) : Option S :=
  if x.1 = 0 then retS m f t
  else if x.1 = 1 then putS 0 t
  else if x.1 = 2 ∨ x.1 = 3 ∨ x.1 = 4 ∨ x.1 = 5 then ((takeS 0 t).bind (takeS 0)).bind (putS 0)
  else if x.1 = 7 then takeS 0 t
  else if x.1 = 8 then copyS m f x.2.toNat t
  else if x.1 = 9 then moveS f x.2.toNat t
  else if x.1 = 10 then keepS m f x.2.toNat t
  else if x.1 = 11 then dropS m t
  else if x.1 = 12 then (takeS 0 t).bind (putS x.2)
  else if x.1 = 13 then (takeS x.2 t).bind (putS 0)
  else if x.1 = 14 then callS (m.funcs.getD x.2.toNat ⟨[], [], [], []⟩) t
  else if x.1 = 15 then putS x.2 t
  else if x.1 = 16 then (takeS 0 t).bind (takeS x.2)
  else if x.1 = 17 then (takeS 0 t).bind (putS 0)
  else some t

/-- where an instruction leads. -/
def leads (x : Int × Int) (i : Nat) : List Nat :=
  (if x.1 = 6 ∨ x.1 = 7 then [x.2.toNat] else []) ++ (if x.1 = 0 ∨ x.1 = 6 ∨ x.1 = 18 then [] else [i + 1])

/-- the state in which a function begins. -/
def init (f : Pu.Fn) : S := ⟨[], List.replicate f.params.length true ++ List.replicate (8 - f.params.length) false⟩

/-- a state for some of the instructions, as it should be. -/
structure Good (m : Pu.Md) (f : Pu.Fn) (σ : Nat → Option S) : Prop where
  start : σ 0 = some (init f)
  step : ∀ i s, σ i = some s → i < f.code.length ∧ ∃ s', after m f (f.code.getD i (0, 0)) s = some s' ∧ ∀ j ∈ leads (f.code.getD i (0, 0)) i, σ j = some s'

def Sound (m : Pu.Md) (f : Pu.Fn) : Prop := ∃ σ, Good m f σ
end Fl
end Go.Proofs.Ytjamgmbdilkbcaa

/- Plain functions: what a module may be; its bytes. -/
namespace Go.Proofs.Ytjamgmbdilkbcaa
namespace Pu

def isList (l : List Int) (most hi : Int) : Bool := decide ((l.length : Int) ≤ most) && l.all fun x => decide (0 ≤ x) && decide (x ≤ hi)

def isInstr (kinds funcs places n : Int) (x : Int × Int) : Bool :=
  decide (0 ≤ x.1) && decide (x.1 ≤ 18) && decide (argLo x.1 ≤ x.2) && decide (x.2 ≤ argHi kinds funcs places n x.1)

def isCode (l : List (Int × Int)) (kinds funcs places n : Int) : Bool := l.all (isInstr kinds funcs places n)

def isFn (f : Fn) (kinds funcs : Int) : Bool :=
  isList f.params 4 kinds && (isList f.results 3 kinds && (isList f.locals 4 kinds && (decide (1 ≤ f.code.length) && (decide (f.code.length ≤ 100) &&
    isCode f.code kinds funcs ((f.params.length : Int) + (f.locals.length : Int)) f.code.length))))

def isMd (m : Md) : Bool :=
  isList m.kinds 6 3 && (decide (1 ≤ m.funcs.length) && (decide (m.funcs.length ≤ 8) && m.funcs.all fun f => isFn f m.kinds.length m.funcs.length))

/-- a number as a byte. -/
def byte (n : Int) : UInt8 := UInt8.ofNat (n % 256).toNat

def wList (l : List Int) : List UInt8 := byte l.length :: l.map byte
def wCode (l : List (Int × Int)) : List UInt8 := l.flatMap fun x => [byte x.1, byte x.2]
def wFn (f : Fn) : List UInt8 := wList f.params ++ (wList f.results ++ (wList f.locals ++ (byte f.code.length :: wCode f.code)))
def wFns (fs : List Fn) : List UInt8 := fs.flatMap wFn
def wMd (m : Md) : List UInt8 := 67 :: 70 :: (wList m.kinds ++ (byte m.funcs.length :: wFns m.funcs))

/-- Encode: the bytes, the error. -/
def encode (m : Md) : List UInt8 × Int :=
  if isMd m = true then (if 1500 < (wMd m).length then ([], 1) else (wMd m, 0)) else ([], 2)

end Pu
end Go.Proofs.Ytjamgmbdilkbcaa

/- Plain: what is read is what is written. -/
namespace Go.Proofs.Ytjamgmbdilkbcaa
namespace Pu

/-- what is left to read. -/
def rest (b : ByteArray) (s : St) : List UInt8 := b.data.toList.drop s.1

theorem byte_u8 (c : UInt8) : byte (c.toNat : Int) = c := by
  unfold byte
  have := UInt8.toNat_lt c
  have h : ((c.toNat : Int) % 256).toNat = c.toNat := by omega
  rw [h]
  exact UInt8.ofNat_toNat

theorem u8_byte (n : Int) (h0 : 0 ≤ n) (h1 : n ≤ 255) : ((byte n).toNat : Int) = n := by
  unfold byte
  rw [UInt8.toNat_ofNat']
  omega

theorem number_ok {b : ByteArray} {lo hi : Int} {s : St} (h : (number b lo hi s).2.2 = false) :
    s.2 = false ∧ rest b s = byte (number b lo hi s).1 :: rest b (number b lo hi s).2 ∧ lo ≤ (number b lo hi s).1 ∧ (number b lo hi s).1 ≤ hi ∧ 0 ≤ (number b lo hi s).1 ∧ (number b lo hi s).1 ≤ 255 := by
  have hrng := number_rng b lo hi s
  revert h hrng
  unfold number
  split
  · rename_i h1
    intro h; simp [h1] at h
  · rename_i h1
    split
    · intro h; simp at h
    · rename_i h2
      split
      · intro h; simp at h
      · rename_i h3
        intro _ hrng
        have hlt : s.1 < b.data.toList.length := by simp at h2 ⊢; exact h2
        refine ⟨by simpa using h1, ?_, by simp only; omega, by simp only; omega, hrng.1, hrng.2⟩
        simp only [rest]
        rw [List.drop_eq_getElem_cons hlt, byte_u8]
        congr 1
        rw [List.getD_eq_getElem?_getD, List.getElem?_eq_getElem hlt]
        rfl

theorem number_go {b : ByteArray} {lo hi : Int} {s : St} {n : Int} {t : List UInt8} (hs : s.2 = false) (hr : rest b s = byte n :: t) (h0 : 0 ≤ n) (h1 : n ≤ 255) (hlo : lo ≤ n) (hhi : n ≤ hi) :
    (number b lo hi s).1 = n ∧ (number b lo hi s).2.2 = false ∧ rest b (number b lo hi s).2 = t := by
  have hlt : s.1 < b.data.toList.length := by
    have := congrArg List.length hr
    simp only [rest, List.length_drop, List.length_cons] at this
    omega
  have hd := List.drop_eq_getElem_cons hlt
  unfold rest at hr
  rw [hr] at hd
  have hb : b.data.toList[s.1] = byte n := by injection hd with e _; exact e.symm
  have ht : t = b.data.toList.drop (s.1 + 1) := by injection hd
  have hg : ((b.data.toList.getD s.1 0).toNat : Int) = n := by
    rw [List.getD_eq_getElem?_getD, List.getElem?_eq_getElem hlt]
    simp only [Option.getD_some, hb]
    exact u8_byte n h0 h1
  have e : number b lo hi s = (n, (s.1 + 1, false)) := by
    unfold number
    rw [if_neg (by simp [hs]), if_neg (by simpa using hlt), hg, if_neg (by omega)]
  rw [e]
  exact ⟨rfl, rfl, ht.symm⟩

theorem nums_ok {b : ByteArray} {hi : Int} {s : St} : ∀ {k : Nat}, (nums b hi s k).2.2 = false →
    s.2 = false ∧ rest b s = (nums b hi s k).1.map byte ++ rest b (nums b hi s k).2 ∧ ∀ x ∈ (nums b hi s k).1, 0 ≤ x ∧ x ≤ hi
  | 0, h => ⟨h, by simp [nums], by simp [nums]⟩
  | k + 1, h => by
    have h1 := number_ok (b := b) (lo := 0) (hi := hi) (s := (nums b hi s k).2) h
    have h2 := nums_ok h1.1
    refine ⟨h2.1, ?_, ?_⟩
    · rw [h2.2.1, h1.2.1]
      simp [nums]
    · intro x hx
      simp only [nums, List.mem_append, List.mem_singleton] at hx
      rcases hx with hx | hx
      · exact h2.2.2 x hx
      · subst hx; exact ⟨h1.2.2.1, h1.2.2.2.1⟩

theorem nums_go {b : ByteArray} {hi : Int} (hhi : hi ≤ 255) {s : St} {t : List UInt8} (hs : s.2 = false) : ∀ (k : Nat) (l : List Int) (_ : k ≤ l.length) (_ : rest b s = l.map byte ++ t) (_ : ∀ x ∈ l, 0 ≤ x ∧ x ≤ hi),
    (nums b hi s k).1 = l.take k ∧ (nums b hi s k).2.2 = false ∧ rest b (nums b hi s k).2 = (l.drop k).map byte ++ t
  | 0, l, _, hr, _ => ⟨by simp [nums], hs, by simpa [nums] using hr⟩
  | k + 1, l, hk, hr, hl => by
    obtain ⟨h1, h2, h3⟩ := nums_go hhi hs k l (by omega) hr hl
    have hlt : k < l.length := by omega
    rw [List.drop_eq_getElem_cons hlt, List.map_cons, List.cons_append] at h3
    have hx := hl l[k] (List.getElem_mem hlt)
    obtain ⟨g1, g2, g3⟩ := number_go (lo := 0) (hi := hi) h2 h3 hx.1 (by omega) hx.1 hx.2
    refine ⟨?_, g2, g3⟩
    simp only [nums]
    rw [g1, h1, List.take_succ_eq_append_getElem hlt]

theorem list_ok {b : ByteArray} {most hi : Int} {s : St} (h : (list b most hi s).2.2 = false) :
    s.2 = false ∧ rest b s = wList (list b most hi s).1 ++ rest b (list b most hi s).2 ∧ isList (list b most hi s).1 most hi = true := by
  have h1 := nums_ok (b := b) (hi := hi) h
  have h2 := number_ok h1.1
  have hl : (list b most hi s).1.length = (number b 0 most s).1.toNat := nums_len _ _ _ _
  refine ⟨h2.1, ?_, ?_⟩
  · rw [h2.2.1, h1.2.1, wList, hl]
    have : ((number b 0 most s).1.toNat : Int) = (number b 0 most s).1 := by omega
    rw [this]
    rfl
  · simp only [isList, Bool.and_eq_true, decide_eq_true_eq, List.all_eq_true]
    refine ⟨by omega, fun x hx => h1.2.2 x hx⟩

theorem list_go {b : ByteArray} {most hi : Int} (hm : most ≤ 255) (hhi : hi ≤ 255) {s : St} {t : List UInt8} {l : List Int} (hs : s.2 = false) (hr : rest b s = wList l ++ t) (hl : isList l most hi = true) :
    (list b most hi s).1 = l ∧ (list b most hi s).2.2 = false ∧ rest b (list b most hi s).2 = t := by
  simp only [isList, Bool.and_eq_true, decide_eq_true_eq, List.all_eq_true] at hl
  obtain ⟨h1, h2⟩ := hl
  rw [wList, List.cons_append] at hr
  obtain ⟨g1, g2, g3⟩ := number_go (lo := 0) (hi := most) hs hr (by omega) (by omega) (by omega) h1
  have := nums_go (b := b) hhi g2 l.length l (Nat.le_refl _) g3 h2
  unfold list
  rw [g1, Int.toNat_natCast]
  simpa using this

theorem argLo_ge (op : Int) : 0 ≤ argLo op := by
  unfold argLo
  split <;> omega
theorem argHi_le (ki fu pl n op : Int) (hki : ki ≤ 255) (hfu : fu ≤ 255) (hpl : pl ≤ 255) (hn : n ≤ 255) : argHi ki fu pl n op ≤ 255 := by
  unfold argHi
  repeat' split
  all_goals omega

theorem wCode_snoc (l : List (Int × Int)) (x : Int × Int) : wCode (l ++ [x]) = wCode l ++ [byte x.1, byte x.2] := by simp [wCode]

theorem code_ok {b : ByteArray} {ki fu pl n : Int} {s : St} : ∀ {k : Nat}, (code b ki fu pl n s k).2.2 = false →
    s.2 = false ∧ rest b s = wCode (code b ki fu pl n s k).1 ++ rest b (code b ki fu pl n s k).2 ∧ isCode (code b ki fu pl n s k).1 ki fu pl n = true
  | 0, h => ⟨h, by simp [code, wCode], by simp [code, isCode]⟩
  | k + 1, h => by
    have h1 := number_ok h
    have h2 := number_ok h1.1
    have h3 := code_ok h2.1
    refine ⟨h3.1, ?_, ?_⟩
    · rw [h3.2.1, h2.2.1, h1.2.1]
      simp only [code, wCode_snoc, List.append_assoc, List.cons_append, List.nil_append]
    · have h4 := h3.2.2
      simp only [isCode, List.all_eq_true] at h4
      simp only [code, isCode, List.all_append, List.all_cons, List.all_nil, Bool.and_true, Bool.and_eq_true, List.all_eq_true]
      refine ⟨h4, ?_⟩
      simp only [isInstr, Bool.and_eq_true, decide_eq_true_eq]
      exact ⟨⟨⟨h2.2.2.1, h2.2.2.2.1⟩, h1.2.2.1⟩, h1.2.2.2.1⟩

theorem code_go {b : ByteArray} {ki fu pl n : Int} (hki : ki ≤ 255) (hfu : fu ≤ 255) (hpl : pl ≤ 255) (hn : n ≤ 255) {s : St} {t : List UInt8} (hs : s.2 = false) :
    ∀ (k : Nat) (l : List (Int × Int)) (_ : k ≤ l.length) (_ : rest b s = wCode l ++ t) (_ : isCode l ki fu pl n = true),
    (code b ki fu pl n s k).1 = l.take k ∧ (code b ki fu pl n s k).2.2 = false ∧ rest b (code b ki fu pl n s k).2 = wCode (l.drop k) ++ t
  | 0, l, _, hr, _ => ⟨by simp [code], hs, by simpa [code] using hr⟩
  | k + 1, l, hk, hr, hl => by
    obtain ⟨h1, h2, h3⟩ := code_go hki hfu hpl hn hs k l (by omega) hr hl
    have hlt : k < l.length := by omega
    have hx : isInstr ki fu pl n l[k] = true := by
      simp only [isCode, List.all_eq_true] at hl
      exact hl _ (List.getElem_mem hlt)
    simp only [isInstr, Bool.and_eq_true, decide_eq_true_eq] at hx
    obtain ⟨⟨⟨x1, x2⟩, x3⟩, x4⟩ := hx
    have e1 := argLo_ge l[k].1
    have e2 := argHi_le ki fu pl n l[k].1 hki hfu hpl hn
    rw [List.drop_eq_getElem_cons hlt] at h3
    simp only [wCode, List.flatMap_cons, List.cons_append, List.nil_append] at h3
    obtain ⟨g1, g2, g3⟩ := number_go (lo := 0) (hi := 18) h2 h3 x1 (by omega) x1 x2
    obtain ⟨f1, f2, f3⟩ := number_go (lo := argLo l[k].1) (hi := argHi ki fu pl n l[k].1) g2 g3 (by omega) (by omega) x3 x4
    refine ⟨?_, ?_, ?_⟩
    · simp only [code]
      rw [g1, f1, h1, List.take_succ_eq_append_getElem hlt]
    · simp only [code]
      rw [g1]; exact f2
    · simp only [code]
      rw [g1]; exact f3

theorem func_ok {b : ByteArray} {ki fu : Int} {s : St} (h : (func b ki fu s).2.2 = false) :
    s.2 = false ∧ rest b s = wFn (func b ki fu s).1 ++ rest b (func b ki fu s).2 ∧ isFn (func b ki fu s).1 ki fu = true := by
  have h1 := code_ok h
  have h2 := number_ok h1.1
  have h3 := list_ok h2.1
  have h4 := list_ok h3.1
  have h5 := list_ok h4.1
  have hcl : ∀ pl n s k, (code b ki fu pl n s k).1.length = k := fun pl n s k => code_len _ _ _ _ _ _ _
  refine ⟨h5.1, ?_, ?_⟩
  · rw [h5.2.1, h4.2.1, h3.2.1, h2.2.1, h1.2.1]
    simp only [func, wFn, hcl, List.append_assoc, List.cons_append]
    rw [Int.toNat_of_nonneg h2.2.2.2.2.1]
  · simp only [func, isFn, Bool.and_eq_true, decide_eq_true_eq, hcl]
    refine ⟨h5.2.2, h4.2.2, h3.2.2, by omega, by omega, ?_⟩
    rw [Int.toNat_of_nonneg h2.2.2.2.2.1]
    exact h1.2.2

theorem func_go {b : ByteArray} {ki fu : Int} (hki : ki ≤ 255) (hfu : fu ≤ 255) {s : St} {t : List UInt8} {f : Fn} (hs : s.2 = false) (hr : rest b s = wFn f ++ t) (hf : isFn f ki fu = true) :
    (func b ki fu s).1 = f ∧ (func b ki fu s).2.2 = false ∧ rest b (func b ki fu s).2 = t := by
  simp only [isFn, Bool.and_eq_true, decide_eq_true_eq] at hf
  obtain ⟨f1, f2, f3, f4, f5, f6⟩ := hf
  have n1 : (f.params.length : Int) ≤ 4 := by simp only [isList, Bool.and_eq_true, decide_eq_true_eq] at f1; exact f1.1
  have n3 : (f.locals.length : Int) ≤ 4 := by simp only [isList, Bool.and_eq_true, decide_eq_true_eq] at f3; exact f3.1
  simp only [wFn, List.append_assoc] at hr
  obtain ⟨a1, a2, a3⟩ := list_go (most := 4) (by omega) hki hs hr f1
  obtain ⟨b1, b2, b3⟩ := list_go (most := 3) (by omega) hki a2 a3 f2
  obtain ⟨c1, c2, c3⟩ := list_go (most := 4) (by omega) hki b2 b3 f3
  rw [List.cons_append] at c3
  obtain ⟨d1, d2, d3⟩ := number_go (lo := 1) (hi := 100) c2 c3 (by omega) (by omega) (by omega) (by omega)
  obtain ⟨e1, e2, e3⟩ := code_go (b := b) (n := f.code.length) hki hfu (pl := (f.params.length : Int) + (f.locals.length : Int)) (by omega) (by omega) d2 f.code.length f.code (Nat.le_refl _) d3 f6
  simp only [func]
  rw [a1, b1, c1, d1, Int.toNat_natCast]
  refine ⟨?_, e2, by simpa [wCode] using e3⟩
  rw [e1, List.take_of_length_le (Nat.le_refl _)]

theorem wFns_snoc (l : List Fn) (x : Fn) : wFns (l ++ [x]) = wFns l ++ wFn x := by simp [wFns]

theorem fns_ok {b : ByteArray} {ki fu : Int} {s : St} : ∀ {k : Nat}, (fns b ki fu s k).2.2 = false →
    s.2 = false ∧ rest b s = wFns (fns b ki fu s k).1 ++ rest b (fns b ki fu s k).2 ∧ ∀ f ∈ (fns b ki fu s k).1, isFn f ki fu = true
  | 0, h => ⟨h, by simp [fns, wFns], by simp [fns]⟩
  | k + 1, h => by
    have h1 := func_ok h
    have h2 := fns_ok h1.1
    refine ⟨h2.1, ?_, ?_⟩
    · rw [h2.2.1, h1.2.1]
      simp only [fns, wFns_snoc, List.append_assoc]
    · intro f hf
      simp only [fns, List.mem_append, List.mem_singleton] at hf
      rcases hf with hf | hf
      · exact h2.2.2 f hf
      · subst hf; exact h1.2.2

theorem fns_go {b : ByteArray} {ki fu : Int} (hki : ki ≤ 255) (hfu : fu ≤ 255) {s : St} {t : List UInt8} (hs : s.2 = false) :
    ∀ (k : Nat) (l : List Fn) (_ : k ≤ l.length) (_ : rest b s = wFns l ++ t) (_ : ∀ f ∈ l, isFn f ki fu = true),
    (fns b ki fu s k).1 = l.take k ∧ (fns b ki fu s k).2.2 = false ∧ rest b (fns b ki fu s k).2 = wFns (l.drop k) ++ t
  | 0, l, _, hr, _ => ⟨by simp [fns], hs, by simpa [fns] using hr⟩
  | k + 1, l, hk, hr, hl => by
    obtain ⟨h1, h2, h3⟩ := fns_go hki hfu hs k l (by omega) hr hl
    have hlt : k < l.length := by omega
    rw [List.drop_eq_getElem_cons hlt] at h3
    simp only [wFns, List.flatMap_cons, List.append_assoc] at h3
    obtain ⟨g1, g2, g3⟩ := func_go hki hfu h2 h3 (hl _ (List.getElem_mem hlt))
    refine ⟨?_, g2, g3⟩
    simp only [fns]
    rw [g1, h1, List.take_succ_eq_append_getElem hlt]

theorem module_ok {b : ByteArray} (h : (module b).2.2 = false) : b.data.toList = wMd (module b).1 ++ rest b (module b).2 ∧ isMd (module b).1 = true := by
  have h1 := fns_ok h
  have h2 := number_ok h1.1
  have h3 := list_ok h2.1
  have h4 := number_ok h3.1
  have h5 := number_ok h4.1
  have hfl : ∀ ki fu s k, (fns b ki fu s k).1.length = k := fun ki fu s k => fns_len _ _ _ _ _
  constructor
  · have e : b.data.toList = rest b (0, false) := by simp [rest]
    have e5 : byte (number b 67 67 (0, false)).1 = 67 := by
      have : (number b 67 67 (0, false)).1 = 67 := by omega
      rw [this]; decide
    have e4 : byte (number b 70 70 (number b 67 67 (0, false)).2).1 = 70 := by
      have : (number b 70 70 (number b 67 67 (0, false)).2).1 = 70 := by omega
      rw [this]; decide
    rw [e, h5.2.1, h4.2.1, h3.2.1, h2.2.1, h1.2.1]
    simp only [module, wMd, hfl, List.append_assoc, List.cons_append, e5, e4]
    rw [Int.toNat_of_nonneg h2.2.2.2.2.1]
  · simp only [module, isMd, Bool.and_eq_true, decide_eq_true_eq, List.all_eq_true, hfl]
    refine ⟨h3.2.2, by omega, by omega, fun f hf => ?_⟩
    rw [Int.toNat_of_nonneg h2.2.2.2.2.1]
    exact h1.2.2 f hf

theorem module_go {b : ByteArray} {t : List UInt8} {m : Md} (hr : b.data.toList = wMd m ++ t) (hm : isMd m = true) : (module b).1 = m ∧ (module b).2.2 = false ∧ rest b (module b).2 = t := by
  simp only [isMd, Bool.and_eq_true, decide_eq_true_eq, List.all_eq_true] at hm
  obtain ⟨m1, m2, m3, m4⟩ := hm
  have n1 : (m.kinds.length : Int) ≤ 6 := by simp only [isList, Bool.and_eq_true, decide_eq_true_eq] at m1; exact m1.1
  have e : rest b (0, false) = byte 67 :: (byte 70 :: (wList m.kinds ++ (byte m.funcs.length :: (wFns m.funcs ++ t)))) := by
    have : rest b (0, false) = b.data.toList := by simp [rest]
    rw [this, hr, show byte 67 = 67 from by decide, show byte 70 = 70 from by decide]
    simp only [wMd, List.append_assoc, List.cons_append]
  obtain ⟨a1, a2, a3⟩ := number_go (lo := 67) (hi := 67) (s := (0, false)) rfl e (by omega) (by omega) (by omega) (by omega)
  obtain ⟨b1, b2, b3⟩ := number_go (lo := 70) (hi := 70) a2 a3 (by omega) (by omega) (by omega) (by omega)
  obtain ⟨c1, c2, c3⟩ := list_go (most := 6) (hi := 3) (by omega) (by omega) b2 b3 m1
  obtain ⟨d1, d2, d3⟩ := number_go (lo := 1) (hi := 8) c2 c3 (by omega) (by omega) (by omega) (by omega)
  obtain ⟨e1, e2, e3⟩ := fns_go (ki := m.kinds.length) (fu := m.funcs.length) (by omega) (by omega) d2 m.funcs.length m.funcs (Nat.le_refl _) d3 m4
  simp only [module]
  rw [c1, d1, Int.toNat_natCast]
  refine ⟨?_, e2, by simpa [wFns] using e3⟩
  rw [e1, List.take_of_length_le (Nat.le_refl _)]

/-- bytes that are read are written as they were. -/
theorem canon {b : ByteArray} (h : (decode b).2.1 = 0) : encode (decode b).1 = (b.data.toList, 0) := by
  revert h
  unfold decode
  split
  · intro h; simp at h
  · rename_i h1
    simp only
    split
    · intro h; simp at h
    · rename_i h2
      intro _
      have h3 : ¬ (module b).2.1 < b.size := by
        intro hc; simp [atEnd, hc] at h2
      have h4 : (module b).2.2 = false := by
        simp only [atEnd, h3, if_false] at h2; simpa using h2
      obtain ⟨k1, k2⟩ := module_ok h4
      have hn : rest b (module b).2 = [] := by
        simp only [rest, List.drop_eq_nil_iff]
        simpa using h3
      rw [hn, List.append_nil] at k1
      show encode (module b).1 = _
      unfold encode
      rw [if_pos k2, ← k1, if_neg (by simpa using h1)]

/-- a module that is written is read again as it was. -/
theorem back {m : Md} (h : (encode m).2 = 0) : decode ⟨(encode m).1.toArray⟩ = (m, 0, 0) ∧ (encode m).1.length ≤ 1500 := by
  revert h
  unfold encode
  split
  · rename_i h1
    split
    · intro h; simp at h
    · rename_i h2
      intro _
      have e : (ByteArray.mk (wMd m).toArray).data.toList = wMd m ++ [] := by simp
      have hsz : (ByteArray.mk (wMd m).toArray).size = (wMd m).length := by simp [ByteArray.size]
      obtain ⟨g1, g2, g3⟩ := module_go e h1
      have hle : ¬ (module ⟨(wMd m).toArray⟩).2.1 < (ByteArray.mk (wMd m).toArray).size := by
        simp only [rest, List.drop_eq_nil_iff] at g3
        rw [hsz]
        simpa using g3
      refine ⟨?_, by simp only; omega⟩
      unfold decode
      rw [if_neg (by rw [hsz]; exact h2)]
      simp only [atEnd, hle, if_false, g2, g1]
      simp
  · intro h; simp at h

/-- with an error nothing is written. -/
theorem encode_err (m : Md) : ((encode m).2 ≠ 0 → (encode m).1 = []) ∧ ((encode m).2 = 0 ∨ (encode m).2 = 1 ∨ (encode m).2 = 2) := by
  unfold encode
  split
  · split
    · exact ⟨fun _ => rfl, .inr (.inl rfl)⟩
    · exact ⟨fun h => absurd rfl h, .inl rfl⟩
  · exact ⟨fun _ => rfl, .inr (.inr rfl)⟩

end Pu
end Go.Proofs.Ytjamgmbdilkbcaa
