/- Plain functions: bytes read number by number, and written. No program here. -/
import Derived.WalkKit
namespace Go.Proofs.Ytjamgmbdilkbcaa
namespace Pu

/-- where the reader stands: the place, and whether a byte was bad. -/
abbrev St := Nat × Bool

/-- one number from lo to hi. -/
def number (b : ByteArray) (lo hi : Int) (s : St) : Int × St :=
  if s.2 = true then (0, s)
  else if b.size ≤ s.1 then (0, (s.1, true))
  else if ((b.data.toList.getD s.1 0).toNat : Int) < lo ∨ hi < ((b.data.toList.getD s.1 0).toNat : Int) then (0, (s.1, true))
  else (((b.data.toList.getD s.1 0).toNat : Int), (s.1 + 1, false))

theorem number_le (b : ByteArray) (lo hi : Int) (s : St) (h : s.1 ≤ b.size) : (number b lo hi s).2.1 ≤ b.size := by
  unfold number
  split
  · exact h
  · split
    · exact h
    · split
      · exact h
      · show s.1 + 1 ≤ b.size
        omega

theorem number_rng (b : ByteArray) (lo hi : Int) (s : St) : 0 ≤ (number b lo hi s).1 ∧ (number b lo hi s).1 ≤ 255 := by
  unfold number
  have h := UInt8.toNat_lt (b.data.toList.getD s.1 0)
  split
  · exact ⟨Int.le_refl _, by show (0:Int) ≤ 255; decide⟩
  · split
    · exact ⟨Int.le_refl _, by show (0:Int) ≤ 255; decide⟩
    · split
      · exact ⟨Int.le_refl _, by show (0:Int) ≤ 255; decide⟩
      · constructor
        · show (0 : Int) ≤ ((b.data.toList.getD s.1 0).toNat : Int); omega
        · show ((b.data.toList.getD s.1 0).toNat : Int) ≤ 255; omega

theorem number_hi (b : ByteArray) (lo hi : Int) (s : St) (h : 0 ≤ hi) : (number b lo hi s).1 ≤ hi := by
  unfold number
  split
  · exact h
  · split
    · exact h
    · split
      · exact h
      · rename_i h3
        show ((b.data.toList.getD s.1 0).toNat : Int) ≤ hi
        omega

/-- numbers from 0 to hi, one behind the other: k of them. -/
def nums (b : ByteArray) (hi : Int) (s : St) : Nat → List Int × St
  | 0 => ([], s)
  | k + 1 => ((nums b hi s k).1 ++ [(number b 0 hi (nums b hi s k).2).1], (number b 0 hi (nums b hi s k).2).2)

theorem nums_len (b : ByteArray) (hi : Int) (s : St) (k : Nat) : (nums b hi s k).1.length = k := by
  induction k with
  | zero => rfl
  | succ k ih => simp [nums, ih]

theorem nums_le (b : ByteArray) (hi : Int) (s : St) (h : s.1 ≤ b.size) (k : Nat) : (nums b hi s k).2.1 ≤ b.size := by
  induction k with
  | zero => exact h
  | succ k ih => exact number_le _ _ _ _ ih

/-- a count up to most, and so many numbers up to hi. -/
def list (b : ByteArray) (most hi : Int) (s : St) : List Int × St :=
  nums b hi (number b 0 most s).2 (number b 0 most s).1.toNat

/-- the least and the greatest argument of an operation. -/
def argLo (op : Int) : Int := if op = 12 ∨ op = 13 ∨ op = 15 ∨ op = 16 ∨ op = 17 then 1 else 0
def argHi (kinds funcs places code : Int) (op : Int) : Int :=
  if op = 1 ∨ op = 18 then 255
  else if op = 6 ∨ op = 7 then code - 1
  else if op = 8 ∨ op = 9 ∨ op = 10 then places - 1
  else if op = 12 ∨ op = 13 ∨ op = 15 ∨ op = 16 ∨ op = 17 then kinds
  else if op = 14 then funcs - 1
  else 0

/-- the instructions: k of them, in a function of so many places and n instructions, a module of so many kinds and functions. -/
def code (b : ByteArray) (kinds funcs places n : Int) (s : St) : Nat → List (Int × Int) × St
  | 0 => ([], s)
  | k + 1 =>
    ((code b kinds funcs places n s k).1 ++ [((number b 0 18 (code b kinds funcs places n s k).2).1,
        (number b (argLo (number b 0 18 (code b kinds funcs places n s k).2).1) (argHi kinds funcs places n (number b 0 18 (code b kinds funcs places n s k).2).1) (number b 0 18 (code b kinds funcs places n s k).2).2).1)],
      (number b (argLo (number b 0 18 (code b kinds funcs places n s k).2).1) (argHi kinds funcs places n (number b 0 18 (code b kinds funcs places n s k).2).1) (number b 0 18 (code b kinds funcs places n s k).2).2).2)

theorem code_len (b : ByteArray) (kinds funcs places n : Int) (s : St) (k : Nat) : (code b kinds funcs places n s k).1.length = k := by
  induction k with
  | zero => rfl
  | succ k ih => simp [code, ih]

/-- a function, a module. -/
structure Fn where
  params : List Int
  results : List Int
  locals : List Int
  code : List (Int × Int)

structure Md where
  kinds : List Int
  funcs : List Fn

def func (b : ByteArray) (kinds funcs : Int) (s : St) : Fn × St :=
  let p := list b 4 kinds s
  let r := list b 3 kinds p.2
  let l := list b 4 kinds r.2
  let n := number b 1 100 l.2
  let c := code b kinds funcs ((p.1.length : Int) + l.1.length) n.1 n.2 n.1.toNat
  (⟨p.1, r.1, l.1, c.1⟩, c.2)

def fns (b : ByteArray) (kinds funcs : Int) (s : St) : Nat → List Fn × St
  | 0 => ([], s)
  | k + 1 => ((fns b kinds funcs s k).1 ++ [(func b kinds funcs (fns b kinds funcs s k).2).1], (func b kinds funcs (fns b kinds funcs s k).2).2)

theorem fns_len (b : ByteArray) (kinds funcs : Int) (s : St) (k : Nat) : (fns b kinds funcs s k).1.length = k := by
  induction k with
  | zero => rfl
  | succ k ih => simp [fns, ih]

def module (b : ByteArray) : Md × St :=
  let s1 := (number b 67 67 (0, false)).2
  let s2 := (number b 70 70 s1).2
  let ks := list b 6 3 s2
  let n := number b 1 8 ks.2
  let fs := fns b ks.1.length n.1 n.2 n.1.toNat
  (⟨ks.1, fs.1⟩, fs.2)

def atEnd (b : ByteArray) (s : St) : St := if s.1 < b.size then (s.1, true) else s

/-- Decode: the module, the error, the place. -/
def decode (b : ByteArray) : Md × Int × Int :=
  if 1500 < b.size then (⟨[], []⟩, 1, 0)
  else
    let m := module b
    let s := atEnd b m.2
    if s.2 = true then (⟨[], []⟩, 2, s.1) else (m.1, 0, 0)

end Pu
end Go.Proofs.Ytjamgmbdilkbcaa
