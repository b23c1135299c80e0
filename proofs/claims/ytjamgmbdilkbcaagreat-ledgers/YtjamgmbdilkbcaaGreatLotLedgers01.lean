import Derived.WalkKit
import Derived.Test.YtjamgmbdilkbcaaGreatRows
import Derived.WalkSpells
import Derived.WalkLawsBesides
import Derived.BigQuiet
import Derived.Deep.QuietTactic
/- Plain functions: bytes read number by number, and written. No program here. -/
namespace Go.Proofs.YtjamgmbdilkbcaaGreat
namespace Pu

abbrev St := Nat × Bool
def number (b : ByteArray) (lo hi : Int) (s : St) : Int × St :=
  if s.2 = true then (0, s)
  else if b.size <= s.1 then (0, (s.1, true))
  else if ((b.data.toList.getD s.1 0).toNat : Int) < lo \/ hi < ((b.data.toList.getD s.1 0).toNat : Int) then (0, (s.1, true))
  else (((b.data.toList.getD s.1 0).toNat : Int), (s.1 + 1, false))
theorem number_rng (b : ByteArray) (lo hi : Int) (s : St) : 0 <= (number b lo hi s).1 /\ (number b lo hi s).1 <= 255 := by
  unfold number
  have h := UInt8.toNat_lt (b.data.toList.getD s.1 0)
  split
  · exact ⟨Int.le_refl _, by show (0:Int) <= 255; decide⟩
  · split
    · exact ⟨Int.le_refl _, by show (0:Int) <= 255; decide⟩
    · split
      · exact ⟨Int.le_refl _, by show (0:Int) <= 255; decide⟩
      · constructor
        · show (0 : Int) <= ((b.data.toList.getD s.1 0).toNat : Int); omega
        · show ((b.data.toList.getD s.1 0).toNat : Int) <= 255; omega
theorem number_hi (b : ByteArray) (lo hi : Int) (s : St) (h : 0 <= hi) : (number b lo hi s).1 <= hi := by
  unfold number
  split
  · exact h
  · split
    · exact h
    · split
      · exact h
      · rename_i h3
        show ((b.data.toList.getD s.1 0).toNat : Int) <= hi
        omega
def nums (b : ByteArray) (hi : Int) (s : St) : Nat -> List Int × St
  | 0 => ([], s)
  | k + 1 => ((nums b hi s k).1 ++ [(number b 0 hi (nums b hi s k).2).1], (number b 0 hi (nums b hi s k).2).2)
theorem nums_len (b : ByteArray) (hi : Int) (s : St) (k : Nat) : (nums b hi s k).1.length = k := by
  induction k with
  | zero => rfl
  | succ k ih => simp [nums, ih]
def list (b : ByteArray) (most hi : Int) (s : St) : List Int × St :=
  nums b hi (number b 0 most s).2 (number b 0 most s).1.toNat
def argLo (op : Int) : Int := if op = 12 \/ op = 13 \/ op = 15 \/ op = 16 \/ op = 17 then 1 else 0
def argHi (kinds funcs places code : Int) (op : Int) : Int :=
  if op = 1 \/ op = 18 then 255
  else if op = 6 \/ op = 7 then code - 1
  else if op = 8 \/ op = 9 \/ op = 10 then places - 1
  else if op = 12 \/ op = 13 \/ op = 15 \/ op = 16 \/ op = 17 then kinds
  else if op = 14 then funcs - 1
  else 0
def code (b : ByteArray) (kinds funcs places n : Int) (s : St) : Nat -> List (Int × Int) × St
  | 0 => ([], s)
  | k + 1 =>
    ((code b kinds funcs places n s k).1 ++ [((number b 0 18 (code b kinds funcs places n s k).2).1,
        (number b (argLo (number b 0 18 (code b kinds funcs places n s k).2).1) (argHi kinds funcs places n (number b 0 18 (code b kinds funcs places n s k).2).1) (number b 0 18 (code b kinds funcs places n s k).2).2).1)],
      (number b (argLo (number b 0 18 (code b kinds funcs places n s k).2).1) (argHi kinds funcs places n (number b 0 18 (code b kinds funcs places n s k).2).1) (number b 0 18 (code b kinds funcs places n s k).2).2).2)
theorem code_len (b : ByteArray) (kinds funcs places n : Int) (s : St) (k : Nat) : (code b kinds funcs places n s k).1.length = k := by
  induction k with
  | zero => rfl
  | succ k ih => simp [code, ih]
structure Fn where
  params : List Int
  results : List Int
  locals : List Int
  code : List (Int × Int)
structure Md where
  kinds : List Int
  funcs : List Fn
def func (b : ByteArray) (kinds funcs : Int) (s : St) : Fn × St :=
  let p := list b 4 kinds s
  let r := list b 3 kinds p.2
  let l := list b 4 kinds r.2
  let n := number b 1 100 l.2
  let c := code b kinds funcs ((p.1.length : Int) + l.1.length) n.1 n.2 n.1.toNat
  (⟨p.1, r.1, l.1, c.1⟩, c.2)
def fns (b : ByteArray) (kinds funcs : Int) (s : St) : Nat -> List Fn × St
  | 0 => ([], s)
  | k + 1 => ((fns b kinds funcs s k).1 ++ [(func b kinds funcs (fns b kinds funcs s k).2).1], (func b kinds funcs (fns b kinds funcs s k).2).2)
theorem fns_len (b : ByteArray) (kinds funcs : Int) (s : St) (k : Nat) : (fns b kinds funcs s k).1.length = k := by
  induction k with
  | zero => rfl
  | succ k ih => simp [fns, ih]
def module (b : ByteArray) : Md × St :=
  let s1 := (number b 67 67 (0, false)).2
  let s2 := (number b 70 70 s1).2
  let ks := list b 6 3 s2
  let n := number b 1 8 ks.2
  let fs := fns b ks.1.length n.1 n.2 n.1.toNat
  (⟨ks.1, fs.1⟩, fs.2)
def atEnd (b : ByteArray) (s : St) : St := if s.1 < b.size then (s.1, true) else s
def decode (b : ByteArray) : Md × Int × Int :=
  if 1500 < b.size then (⟨[], []⟩, 1, 0)
  else
    let m := module b
    let s := atEnd b m.2
    if s.2 = true then (⟨[], []⟩, 2, s.1) else (m.1, 0, 0)
end Pu
end Go.Proofs.YtjamgmbdilkbcaaGreat

/- Soundness, as plain functions. No program here. -/
namespace Go.Proofs.YtjamgmbdilkbcaaGreat
namespace Fl

structure S where
  stk : List Int
  full : List Bool
  deriving DecidableEq

def putS (k : Int) (t : S) : Option S := if t.stk.length < 16 then some ⟨t.stk ++ [k], t.full⟩ else none
def takeS (k : Int) (t : S) : Option S := if t.stk.getLast? = some k then some ⟨t.stk.dropLast, t.full⟩ else none
def may (m : Pu.Md) (k what : Int) : Bool := if 1 <= k /\ k <= m.kinds.length then decide (m.kinds.getD (k - 1).toNat 0 = 3 \/ m.kinds.getD (k - 1).toNat 0 = what) else true
def dropS (m : Pu.Md) (t : S) : Option S := if t.stk ≠ [] /\ may m (t.stk.getLast?.getD 0) 2 = true then some ⟨t.stk.dropLast, t.full⟩ else none
def places (f : Pu.Fn) : List Int := f.params ++ f.locals
def canLose (m : Pu.Md) (f : Pu.Fn) (t : S) (i : Nat) : Bool := !(t.full.getD i false) || may m ((places f).getD i 0) 2
def takesS : List Int -> S -> Option S
  | [], t => some t
  | k :: l, t => (takeS k t).bind (takesS l)
def putsS : List Int -> S -> Option S
  | [], t => some t
  | k :: l, t => (putS k t).bind (putsS l)
def retS (m : Pu.Md) (f : Pu.Fn) (t : S) : Option S := if t.stk = f.results /\ ∀ i, i < (places f).length -> canLose m f t i = true then some t else none
def copyS (m : Pu.Md) (f : Pu.Fn) (a : Nat) (t : S) : Option S := if t.full.getD a false = true /\ may m ((places f).getD a 0) 1 = true then putS ((places f).getD a 0) t else none
def moveS (f : Pu.Fn) (a : Nat) (t : S) : Option S := if t.full.getD a false = true then putS ((places f).getD a 0) ⟨t.stk, t.full.set a false⟩ else none
def keepS (m : Pu.Md) (f : Pu.Fn) (a : Nat) (t : S) : Option S := (takeS ((places f).getD a 0) t).bind fun u => if canLose m f u a = true then some ⟨u.stk, u.full.set a true⟩ else none
def callS (g : Pu.Fn) (t : S) : Option S := (takesS g.params.reverse t).bind (putsS g.results)
def after (m : Pu.Md) (f : Pu.Fn) (x : Int × Int) (t : S) : Option S :=
  if x.1 = 0 then retS m f t
  else if x.1 = 1 then putS 0 t
  else if x.1 = 2 \/ x.1 = 3 \/ x.1 = 4 \/ x.1 = 5 then ((takeS 0 t).bind (takeS 0)).bind (putS 0)
  else if x.1 = 7 then takeS 0 t
  else if x.1 = 8 then copyS m f x.2.toNat t
  else if x.1 = 9 then moveS f x.2.toNat t
  else if x.1 = 10 then keepS m f x.2.toNat t
  else if x.1 = 11 then dropS m t
  else if x.1 = 12 then (takeS 0 t).bind (putS x.2)
  else if x.1 = 13 then (takeS x.2 t).bind (putS 0)
  else if x.1 = 14 then callS (m.funcs.getD x.2.toNat ⟨[], [], [], []⟩) t
  else if x.1 = 15 then putS x.2 t
  else if x.1 = 16 then (takeS 0 t).bind (takeS x.2)
  else if x.1 = 17 then (takeS 0 t).bind (putS 0)
  else some t
def leads (x : Int × Int) (i : Nat) : List Nat :=
  (if x.1 = 6 \/ x.1 = 7 then [x.2.toNat] else []) ++ (if x.1 = 0 \/ x.1 = 6 \/ x.1 = 18 then [] else [i + 1])
def init (f : Pu.Fn) : S := ⟨[], List.replicate f.params.length true ++ List.replicate (8 - f.params.length) false⟩
structure Good (m : Pu.Md) (f : Pu.Fn) (σ : Nat -> Option S) : Prop where
  start : σ 0 = some (init f)
  step : ∀ i s, σ i = some s -> i < f.code.length /\ ∃ s', after m f (f.code.getD i (0, 0)) s = some s' /\ ∀ j ∈ leads (f.code.getD i (0, 0)) i, σ j = some s'
def Sound (m : Pu.Md) (f : Pu.Fn) : Prop := ∃ σ, Good m f σ
end Fl
end Go.Proofs.YtjamgmbdilkbcaaGreat

/- The walks of wire's reader: number. -/
namespace Go.Proofs.YtjamgmbdilkbcaaGreat
open Go.RowKit

def Rd (w : World) (p : Nat) (b : ByteArray) (s : Pu.St) : Prop :=
  w.heap[p]? = some (.cells #[.string b, .int .i64 (s.1 : Int), .bool s.2] 148 (0, 0))
theorem Rd.c0 {w : World} {p : Nat} {b : ByteArray} {s : Pu.St} (h : Rd w p b s) : w.cell? ⟨p, 0, none⟩ = some (.string b) := by
  unfold Rd at h; simp [World.cell?, h]
theorem Rd.c1 {w : World} {p : Nat} {b : ByteArray} {s : Pu.St} (h : Rd w p b s) : w.cell? ⟨p, 1, none⟩ = some (.int .i64 (s.1 : Int)) := by
  unfold Rd at h; simp [World.cell?, h]
theorem Rd.c2 {w : World} {p : Nat} {b : ByteArray} {s : Pu.St} (h : Rd w p b s) : w.cell? ⟨p, 2, none⟩ = some (.bool s.2) := by
  unfold Rd at h; simp [World.cell?, h]
theorem Rd.fz {w : World} {p : Nat} {b : ByteArray} {s : Pu.St} (h : Rd w p b s) (o : Nat) : w.frozen? ⟨p, o, none⟩ = false := by
  unfold Rd at h; simp [World.frozen?, h]
set_option maxHeartbeats 400000 in
theorem number_bad (p : Nat) (b : ByteArray) (k : Nat) (lo hi : Int) (w : World) (h : Rd w p b (k, true)) :
    Calls Tryz.prog 88 #[.pointer (some ⟨p, 0, none⟩), .int .i64 lo, .int .i64 hi] w fun e w' => e = .returned (.int .i64 0) /\ w' = w := by
  have h2 := h.c2
  go_enter Tryz.func88, Tryz.ntmps88
  go_wp2
  go_ret
  exact ⟨rfl, rfl⟩
set_option maxHeartbeats 400000 in
theorem number_end (p : Nat) (b : ByteArray) (k : Nat) (lo hi : Int) (w : World) (h : Rd w p b (k, false)) (hk : b.size <= k) :
    Calls Tryz.prog 88 #[.pointer (some ⟨p, 0, none⟩), .int .i64 lo, .int .i64 hi] w fun e w' => e = .returned (.int .i64 0) /\ ∃ n, w' = (w.drewN n).setCell ⟨p, 2, none⟩ (.bool true) := by
  have h2 := h.c2
  have h0 := h.c0
  have h1 := h.c1
  have h3 := h.fz 2
  clear h
  go_enter Tryz.func88, Tryz.ntmps88
  go_wp2
  go_quiet (fail)
  go_wp2
  go_ret
  exact ⟨rfl, _, rfl⟩
theorem wrap64_u8 (c : UInt8) : wrap64 (c.toNat : Int) = (c.toNat : Int) := by
  have := UInt8.toNat_lt c
  unfold wrap64; omega
set_option maxHeartbeats 400000 in
theorem number_low (p : Nat) (b : ByteArray) (k : Nat) (lo hi : Int) (w : World) (h : Rd w p b (k, false)) (hk : k < b.size) (hlo : ((b[k]'hk).toNat : Int) < lo) :
    Calls Tryz.prog 88 #[.pointer (some ⟨p, 0, none⟩), .int .i64 lo, .int .i64 hi] w fun e w' => e = .returned (.int .i64 0) /\ ∃ n, w' = (w.drewN n).setCell ⟨p, 2, none⟩ (.bool true) := by
  have h2 := h.c2
  have h0 := h.c0
  have h1 := h.c1
  have h3 := h.fz 2
  have hw : wrap64 ((b[k]'hk).toNat : Int) = ((b[k]'hk).toNat : Int) := wrap64_u8 _
  clear h
  go_enter Tryz.func88, Tryz.ntmps88
  go_wp2
  go_quiet (fail)
  go_wp2
  go_quiet (fail)
  go_wp2
  go_ret
  exact ⟨rfl, _, rfl⟩
set_option maxHeartbeats 400000 in
theorem number_high (p : Nat) (b : ByteArray) (k : Nat) (lo hi : Int) (w : World) (h : Rd w p b (k, false)) (hk : k < b.size) (hlo : ¬ ((b[k]'hk).toNat : Int) < lo) (hhi : hi < ((b[k]'hk).toNat : Int)) :
    Calls Tryz.prog 88 #[.pointer (some ⟨p, 0, none⟩), .int .i64 lo, .int .i64 hi] w fun e w' => e = .returned (.int .i64 0) /\ ∃ n, w' = (w.drewN n).setCell ⟨p, 2, none⟩ (.bool true) := by
  have h2 := h.c2
  have h0 := h.c0
  have h1 := h.c1
  have h3 := h.fz 2
  have hw : wrap64 ((b[k]'hk).toNat : Int) = ((b[k]'hk).toNat : Int) := wrap64_u8 _
  clear h
  go_enter Tryz.func88, Tryz.ntmps88
  go_wp2
  go_quiet (fail)
  go_wp2
  go_quiet (fail)
  go_wp2
  go_ret
  exact ⟨rfl, _, rfl⟩
set_option maxHeartbeats 400000 in
theorem number_good (p : Nat) (b : ByteArray) (k : Nat) (lo hi : Int) (w : World) (h : Rd w p b (k, false)) (hk : k < b.size) (hb : b.size <= maxLen) (hlo : ¬ ((b[k]'hk).toNat : Int) < lo) (hhi : ¬ hi < ((b[k]'hk).toNat : Int)) :
    Calls Tryz.prog 88 #[.pointer (some ⟨p, 0, none⟩), .int .i64 lo, .int .i64 hi] w fun e w' => e = .returned (.int .i64 ((b[k]'hk).toNat : Int)) /\ ∃ n, w' = (w.drewN n).setCell ⟨p, 1, none⟩ (.int .i64 ((k : Int) + 1)) := by
  have h2 := h.c2
  have h0 := h.c0
  have h1 := h.c1
  have h3 := h.fz 1
  unfold maxLen at hb
  have hw : wrap64 ((b[k]'hk).toNat : Int) = ((b[k]'hk).toNat : Int) := wrap64_u8 _
  clear h
  go_enter Tryz.func88, Tryz.ntmps88
  go_wp2
  go_quiet (fail)
  go_wp2
  go_quiet (fail)
  go_wp2
  go_ret
  exact ⟨rfl, _, rfl⟩
theorem getD_byte (b : ByteArray) (k : Nat) (hk : k < b.size) : b.data.toList.getD k 0 = b[k]'hk := by
  have h' : k < b.data.toList.length := by simpa using hk
  rw [List.getD_eq_getElem?_getD, List.getElem?_eq_getElem h']
  rfl
theorem grown_setCell (w : World) (n p o : Nat) (v : Value) : w.grownBy ((w.drewN n).setCell ⟨p, o, none⟩ v) (some p) := by
  refine ⟨rfl, rfl, rfl, by simp [World.setCell], fun k _ hk => ?_⟩
  rw [Below.heap_setCell _ _ _ _ (by intro e; exact hk (by simp [e]))]
  simp
theorem grown_refl (w : World) (r : Option Nat) : w.grownBy w r := ⟨rfl, rfl, rfl, Nat.le_refl _, fun _ _ _ => rfl⟩
theorem grown_trans {a b c : World} {r : Option Nat} (h : a.grownBy b r) (k : b.grownBy c r) : a.grownBy c r :=
  ⟨k.os.trans h.os, k.tape.trans h.tape, k.output.trans h.output, Nat.le_trans h.size k.size, fun i hi hr => (k.block i (Nat.lt_of_lt_of_le hi h.size) hr).trans (h.block i hi hr)⟩
theorem number_any (p : Nat) (b : ByteArray) (s : Pu.St) (lo hi : Int) (w : World) (h : Rd w p b s) (hs : b.size <= maxLen) :
    Calls Tryz.prog 88 #[.pointer (some ⟨p, 0, none⟩), .int .i64 lo, .int .i64 hi] w fun e w' =>
      e = .returned (.int .i64 (Pu.number b lo hi s).1) /\ Rd w' p b (Pu.number b lo hi s).2 /\ w.grownBy w' (some p) /\ w'.heap.size = w.heap.size := by
  obtain ⟨k, bad⟩ := s
  cases bad with
  | true =>
    refine (number_bad p b k lo hi w h).mono ?_
    rintro e w' ⟨rfl, rfl⟩
    exact ⟨by simp [Pu.number], by simpa [Pu.number] using h, grown_refl _ _, rfl⟩
  | false =>
    by_cases hk : b.size <= k
    · refine (number_end p b k lo hi w h hk).mono ?_
      rintro e w' ⟨rfl, n, rfl⟩
      refine ⟨by simp [Pu.number, hk], ?_, grown_setCell _ _ _ _ _, by simp [World.setCell]⟩
      simp only [Pu.number, hk]
      unfold Rd at h ⊢
      simp [World.setCell, Array.getElem?_modify, h]
    · have hk' : k < b.size := by omega
      have hg := getD_byte b k hk'
      by_cases hlo : ((b[k]'hk').toNat : Int) < lo
      · refine (number_low p b k lo hi w h hk' hlo).mono ?_
        rintro e w' ⟨rfl, n, rfl⟩
        have e1 : Pu.number b lo hi (k, false) = (0, (k, true)) := by
          simp only [Pu.number, hg]; rw [if_neg (by simp), if_neg (by simpa using hk), if_pos (Or.inl hlo)]
        refine ⟨by rw [e1], ?_, grown_setCell _ _ _ _ _, by simp [World.setCell]⟩
        rw [e1]
        unfold Rd at h ⊢
        simp [World.setCell, Array.getElem?_modify, h]
      · by_cases hhi : hi < ((b[k]'hk').toNat : Int)
        · refine (number_high p b k lo hi w h hk' hlo hhi).mono ?_
          rintro e w' ⟨rfl, n, rfl⟩
          have e1 : Pu.number b lo hi (k, false) = (0, (k, true)) := by
            simp only [Pu.number, hg]; rw [if_neg (by simp), if_neg (by simpa using hk), if_pos (Or.inr hhi)]
          refine ⟨by rw [e1], ?_, grown_setCell _ _ _ _ _, by simp [World.setCell]⟩
          rw [e1]
          unfold Rd at h ⊢
          simp [World.setCell, Array.getElem?_modify, h]
        · refine (number_good p b k lo hi w h hk' hs hlo hhi).mono ?_
          rintro e w' ⟨rfl, n, rfl⟩
          have e1 : Pu.number b lo hi (k, false) = (((b[k]'hk').toNat : Int), (k + 1, false)) := by
            simp only [Pu.number, hg]; rw [if_neg (by simp), if_neg (by simpa using hk), if_neg (by omega)]
          refine ⟨by rw [e1], ?_, grown_setCell _ _ _ _ _, by simp [World.setCell]⟩
          rw [e1]
          unfold Rd at h ⊢
          simp [World.setCell, Array.getElem?_modify, h]
end Go.Proofs.YtjamgmbdilkbcaaGreat

/- The walks of wire's reader: list. -/
namespace Go.Proofs.YtjamgmbdilkbcaaGreat
open Go.RowKit

theorem Tryz.info3 : (Tryz.prog.info? 3).map (fun i => (i.zero, i.size, i.bytes)) = some (some (.int .i64 0), 1, 8) := by kernel_rfl
theorem Rd.lt {w : World} {p : Nat} {b : ByteArray} {s : Pu.St} (h : Rd w p b s) : p < w.heap.size := (Array.getElem?_eq_some_iff.1 h).1
theorem Rd.kept {w w' : World} {p : Nat} {b : ByteArray} {s : Pu.St} {r : Option Nat} (h : Rd w p b s) (hg : w.grownBy w' r) (hr : some p ≠ r) : Rd w' p b s :=
  (hg.block p h.lt hr).trans h
theorem owns_grown {w w' : World} {B e size n p : Nat} {v : Value} {xs : List Value} (h : w.ownsRow B e size v n xs) (hg : w.grownBy w' (some p)) (hp : p < B) : w'.ownsRow B e size v n xs := by
  refine h.kept hg ?_
  cases hv : v.ownBlock with
  | none => exact .inl rfl
  | some k => exact .inr (by have := (h.lt k hv).1; intro e; simp at e; omega)
theorem grown_append {w wr w1 w2 : World} {B e size n p : Nat} {v : Value} {xs : List Value} (hB : B = w.heap.size) (h : w.grownBy wr (some p)) (ho : w1.ownsRow B e size v n xs) (h1 : wr.grownBy w1 (some p)) (h2 : w1.grownBy w2 v.ownBlock) : w.grownBy w2 (some p) := by
  have h3 := grown_trans h h1
  refine ⟨h2.os.trans h3.os, h2.tape.trans h3.tape, h2.output.trans h3.output, Nat.le_trans h3.size h2.size, fun k hk hr => ?_⟩
  rw [h2.block k (Nat.lt_of_lt_of_le hk h3.size) (fun e => by have := (ho.lt k e.symm).1; omega)]
  exact h3.block k hk hr
set_option maxHeartbeats 400000 in
theorem list_any (p : Nat) (b : ByteArray) (s : Pu.St) (most hi : Int) (w : World) (h : Rd w p b s) (hs : b.size <= maxLen) :
    Calls Tryz.prog 89 #[.pointer (some ⟨p, 0, none⟩), .int .i64 most, .int .i64 hi] w fun e w' =>
      ∃ v, e = .returned v /\ w'.ownsRow w.heap.size 3 1 v (Pu.list b most hi s).1.length ((Pu.list b most hi s).1.map (Value.int .i64)) /\
        Rd w' p b (Pu.list b most hi s).2 /\ w.grownBy w' (some p) := by
  obtain ⟨i0, hi0, hz0, hz1, hz2⟩ := info_parts Tryz.info3
  have hp := h.lt
  go_enter Tryz.func89, Tryz.ntmps89
  go_wp2_with fail
  have h0 : Rd (w.alloc (.cells #[] 3)) p b s := h.kept (World.grownBy_alloc w _ none) (by simp)
  refine (number_any p b s 0 most _ h0 hs).mono ?_
  rintro e w1 ⟨rfl, h1, hg1, hsz1⟩
  have hown1 := owns_grown (World.ownsRow_made (base := w.heap.size) (e := 3) (size := 1) w #[] 0 (Nat.le_refl _) (by decide) (by simp)) hg1 hp
  have hg1' := grown_trans (World.grownBy_alloc w (.cells #[] 3) (some p)) hg1
  have HL : Hid (Pu.list b most hi s = Pu.nums b hi (Pu.number b 0 most s).2 (Pu.number b 0 most s).1.toNat) := rfl
  have hr := Pu.number_rng b 0 most s
  clear hg1 h0 h hsz1
  generalize Pu.number b 0 most s = q at *
  obtain ⟨c, s1⟩ := q
  simp only at *
  obtain ⟨n, rfl⟩ := Int.eq_ofNat_of_zero_le hr.1
  have hn : n <= 255 := by omega
  clear hr
  go_wp2
  go_loopw [7, 9] (fun v i wr => ∃ k : Nat, k <= n /\ i = .int .i64 k /\ wr.ownsRow w.heap.size 3 1 v k ((Pu.nums b hi s1 k).1.map (Value.int .i64)) /\ Rd wr p b (Pu.nums b hi s1 k).2 /\ w.grownBy wr (some p)) (fun _ i _ => n - (intOf i).toNat)
  case atStart => exact ⟨0, Nat.zero_le _, rfl, hown1, h1, hg1'⟩
  case round =>
    obtain ⟨k, hk, rfl, hown, hrd, hgr⟩ := hrel
    clear hown1 h1 hg1'
    by_cases hlt : k < n
    · go_wp2_with fail
      refine (number_any p b _ 0 hi wr hrd hs).mono ?_
      rintro e w2 ⟨rfl, hrd2, hg2, hsz2⟩
      have hown2 := owns_grown hown hg2 hp
      have HS : Hid (Pu.nums b hi s1 (k + 1) = ((Pu.nums b hi s1 k).1 ++ [(Pu.number b 0 hi (Pu.nums b hi s1 k).2).1], (Pu.number b 0 hi (Pu.nums b hi s1 k).2).2)) := rfl
      clear hown hrd hsz2
      generalize Pu.number b 0 hi (Pu.nums b hi s1 k).2 = q at *
      obtain ⟨c, s2⟩ := q
      simp only at *
      go_wp2_with (at_builtin; refine wpList_append_own _ rfl _ _ 35 rfl w.heap.size 3 i0 (.int .i64 0) 1 8 Tryz.underlying35 hi0 hz0 hz1 hz2 rfl (by decide) _ _ _ rfl (hown2.alloc _) ⟨w2.heap.size, 0, none⟩ 1 1 [.int .i64 c] rfl rfl (cell_one_new _ _ _) ?c2 ?c3 ?c4 ?c5 ?_)
      case c2 => intro u hu; simp at hu; subst hu; rfl
      case c3 => unfold maxLen; omega
      case c4 => omega
      case c5 => have := hgr.size; have := hg2.size; simp; omega
      intro v' w3 hown' hgrow _
      have hgr' := grown_append rfl (grown_trans hgr hg2) (hown2.alloc _) (World.grownBy_alloc w2 _ (some p)) hgrow
      have hrd' : Rd w3 p b s2 := (hrd2.kept (World.grownBy_alloc w2 _ none) (by simp)).kept hgrow (fun e => by have := (hown2.lt p e.symm).1; omega)
      clear hown2 hgrow hrd2 hg2 hgr
      go_wp2
      go_roundw
      case rel => exact ⟨k + 1, hlt, by go_num, by rw [HS.out]; simpa using hown', by rw [HS.out]; exact hrd', hgr'⟩
      case measure => simp [intOf]; omega
    · go_wp2_with fail
      have hkn : k = n := by omega
      subst hkn
      go_ret
      refine ⟨_, rfl, ?_, ?_, hgr⟩
      · rw [HL.out, Int.toNat_natCast, Pu.nums_len]; exact hown
      · rw [HL.out, Int.toNat_natCast]; exact hrd
end Go.Proofs.YtjamgmbdilkbcaaGreat

/- The walks of wire's reader: argRange. -/
namespace Go.Proofs.YtjamgmbdilkbcaaGreat
open Go.RowKit

set_option maxHeartbeats 4000000 in
theorem argRange_any (a b c d op : Int) (w : World) (ha : 0 <= a /\ a <= 1000) (hb : 0 <= b /\ b <= 1000) (hc : 0 <= c /\ c <= 1000) (hd : 0 <= d /\ d <= 1000) (h0 : 0 <= op) (h1 : op <= 18) :
    Calls Tryz.prog 117 #[.agg #[.int .i64 a, .int .i64 b, .int .i64 c, .int .i64 d], .int .i64 op] w fun e w' =>
      e = .returned (.tuple #[.int .i64 (Pu.argLo op), .int .i64 (Pu.argHi a b c d op)]) /\ w.grownBy w' none := by
  obtain ⟨ha0, ha1⟩ := ha
  obtain ⟨hb0, hb1⟩ := hb
  obtain ⟨hc0, hc1⟩ := hc
  obtain ⟨hd0, hd1⟩ := hd
  have hop : op = 0 \/ op = 1 \/ op = 2 \/ op = 3 \/ op = 4 \/ op = 5 \/ op = 6 \/ op = 7 \/ op = 8 \/ op = 9 \/ op = 10 \/ op = 11 \/ op = 12 \/ op = 13 \/ op = 14 \/ op = 15 \/ op = 16 \/ op = 17 \/ op = 18 := by omega
  rcases hop with rfl | rfl | rfl | rfl | rfl | rfl | rfl | rfl | rfl | rfl | rfl | rfl | rfl | rfl | rfl | rfl | rfl | rfl | rfl
  all_goals clear h0 h1
  all_goals (go_enter Tryz.func117, Tryz.ntmps117)
  all_goals go_wp2
  all_goals (try (go_quiet (fail); go_wp2))
  all_goals go_ret2
  all_goals (exact ⟨rfl, ⟨rfl, rfl, rfl, by simp, fun k hk _ => Below.heap_alloc w _ k hk⟩⟩)
end Go.Proofs.YtjamgmbdilkbcaaGreat

/- The walks of wire's reader: code. -/
namespace Go.Proofs.YtjamgmbdilkbcaaGreat
open Go.RowKit

theorem Tryz.info56 : (Tryz.prog.info? 56).map (fun i => (i.zero, i.size, i.bytes)) = some (some (.agg #[.int .i64 0, .int .i64 0]), 2, 16) := by kernel_rfl
def cc (l : List (Int × Int)) : List Value := l.flatMap fun x => [.int .i64 x.1, .int .i64 x.2]
theorem cc_snoc (l : List (Int × Int)) (x : Int × Int) : cc (l ++ [x]) = cc l ++ [.int .i64 x.1, .int .i64 x.2] := by simp [cc]
theorem code_succ (b : ByteArray) (ki fu pl n : Int) (s : Pu.St) (k : Nat) : Pu.code b ki fu pl n s (k + 1) =
    ((Pu.code b ki fu pl n s k).1 ++ [((Pu.number b 0 18 (Pu.code b ki fu pl n s k).2).1,
        (Pu.number b (Pu.argLo (Pu.number b 0 18 (Pu.code b ki fu pl n s k).2).1) (Pu.argHi ki fu pl n (Pu.number b 0 18 (Pu.code b ki fu pl n s k).2).1) (Pu.number b 0 18 (Pu.code b ki fu pl n s k).2).2).1)],
      (Pu.number b (Pu.argLo (Pu.number b 0 18 (Pu.code b ki fu pl n s k).2).1) (Pu.argHi ki fu pl n (Pu.number b 0 18 (Pu.code b ki fu pl n s k).2).1) (Pu.number b 0 18 (Pu.code b ki fu pl n s k).2).2).2) := rfl
def Bx (w : World) (q : Nat) (a b c d : Int) : Prop := w.heap[q]? = some (.cells #[.int .i64 a, .int .i64 b, .int .i64 c, .int .i64 d] 214 (0, 0))
theorem Bx.lt {w : World} {q : Nat} {a b c d : Int} (h : Bx w q a b c d) : q < w.heap.size := (Array.getElem?_eq_some_iff.1 h).1
theorem Bx.c0 {w : World} {q : Nat} {a b c d : Int} (h : Bx w q a b c d) : w.cell? ⟨q, 0, none⟩ = some (.int .i64 a) := by unfold Bx at h; simp [World.cell?, h]
theorem Bx.c1 {w : World} {q : Nat} {a b c d : Int} (h : Bx w q a b c d) : w.cell? ⟨q, 1, none⟩ = some (.int .i64 b) := by unfold Bx at h; simp [World.cell?, h]
theorem Bx.c2 {w : World} {q : Nat} {a b c d : Int} (h : Bx w q a b c d) : w.cell? ⟨q, 2, none⟩ = some (.int .i64 c) := by unfold Bx at h; simp [World.cell?, h]
theorem Bx.c3 {w : World} {q : Nat} {a b c d : Int} (h : Bx w q a b c d) : w.cell? ⟨q, 3, none⟩ = some (.int .i64 d) := by unfold Bx at h; simp [World.cell?, h]
theorem Bx.fz {w : World} {q : Nat} {a b c d : Int} (h : Bx w q a b c d) (o : Nat) : w.frozen? ⟨q, o, none⟩ = false := by unfold Bx at h; simp [World.frozen?, h]
theorem Bx.set3 {w : World} {q : Nat} {a b c d : Int} (h : Bx w q a b c d) (n : Int) : Bx (w.setCell ⟨q, 3, none⟩ (.int .i64 n)) q a b c n := by unfold Bx at h ⊢; simp [World.setCell, Array.getElem?_modify, h]
theorem Bx.kept {w w' : World} {q : Nat} {a b c d : Int} {r : Option Nat} (h : Bx w q a b c d) (hg : w.grownBy w' r) (hr : some q ≠ r) : Bx w' q a b c d := (hg.block q h.lt hr).trans h
theorem owns_base {w : World} {B B' e size n : Nat} {v : Value} {xs : List Value} (h : w.ownsRow B e size v n xs) (hB : B' <= B) : w.ownsRow B' e size v n xs := by
  refine ⟨h.1, ?_⟩
  rcases h.2 with h2 | ⟨g, cap, cur, hv, hg, r⟩
  · exact .inl h2
  · exact .inr ⟨g, cap, cur, hv, Nat.le_trans hB hg, r⟩
theorem grown_none {w w' : World} {r : Option Nat} (h : w.grownBy w' none) : w.grownBy w' r := ⟨h.os, h.tape, h.output, h.size, fun k hk _ => h.block k hk (by simp)⟩
theorem cell_two (w : World) (x y : Value) (t : TypeId) : ∀ j u, [x, y][j]? = some u -> (w.alloc (.cells #[x, y] t)).cell? ((⟨w.heap.size, 0, none⟩ : Addr).add j) = some u := by
  intro j u hj
  have hadd : (⟨w.heap.size, 0, none⟩ : Addr).add j = ⟨w.heap.size, j, none⟩ := by unfold Addr.add; split <;> simp_all
  rw [hadd]
  have hh : (w.alloc (.cells #[x, y] t)).heap[w.heap.size]? = some (.cells #[x, y] t) := heap_alloc_new w _
  rw [cell_of_row _ w.heap.size j #[x, y] t (0, 0) hh]
  simpa using hj
set_option maxHeartbeats 1000000 in
theorem code_any (p : Nat) (b : ByteArray) (s : Pu.St) (ki fu pl : Int) (n : Nat) (w : World) (h : Rd w p b s) (hs : b.size <= maxLen)
    (hki : 0 <= ki /\ ki <= 1000) (hfu : 0 <= fu /\ fu <= 1000) (hpl : 0 <= pl /\ pl <= 1000) (hn : n <= 1000) :
    Calls Tryz.prog 102 #[.pointer (some ⟨p, 0, none⟩), .agg #[.int .i64 ki, .int .i64 fu, .int .i64 pl, .int .i64 n]] w fun e w' =>
      ∃ v, e = .returned v /\ w'.ownsRow w.heap.size 56 2 v n (cc (Pu.code b ki fu pl n s n).1) /\
        Rd w' p b (Pu.code b ki fu pl n s n).2 /\ w.grownBy w' (some p) := by
  obtain ⟨i0, hi0, hz0, hz1, hz2⟩ := info_parts Tryz.info56
  have hp := h.lt
  have hb0 : Bx (w.alloc (.cells #[.int .i64 ki, .int .i64 fu, .int .i64 pl, .int .i64 (n : Int)] 214)) w.heap.size ki fu pl n := heap_alloc_new w _
  have hb1 := hb0.kept (World.grownBy_alloc _ (.cells #[] 56) none) (by simp)
  have hr1 := (h.kept (World.grownBy_alloc w (.cells #[.int .i64 ki, .int .i64 fu, .int .i64 pl, .int .i64 (n : Int)] 214) none) (by simp)).kept (World.grownBy_alloc _ (.cells #[] 56) none) (by simp)
  have hown1 := World.ownsRow_made (base := w.heap.size + 1) (e := 56) (size := 2) (w.alloc (.cells #[.int .i64 ki, .int .i64 fu, .int .i64 pl, .int .i64 (n : Int)] 214)) #[] 0 (by simp) (by decide) (by simp)
  have hg1 := grown_trans (World.grownBy_alloc w (.cells #[.int .i64 ki, .int .i64 fu, .int .i64 pl, .int .i64 (n : Int)] 214) (some p)) (World.grownBy_alloc _ (.cells #[] 56) (some p))
  clear h hb0
  go_enter Tryz.func102, Tryz.ntmps102
  go_wp2
  go_loopw [5, 6] (fun v i wr => ∃ k : Nat, k <= n /\ i = .int .i64 k /\ wr.ownsRow (w.heap.size + 1) 56 2 v k (cc (Pu.code b ki fu pl n s k).1) /\ Rd wr p b (Pu.code b ki fu pl n s k).2 /\ w.grownBy wr (some p) /\ Bx wr w.heap.size ki fu pl n) (fun _ i _ => n - (intOf i).toNat)
  case atStart => exact ⟨0, Nat.zero_le _, rfl, by simpa [Pu.code, cc] using hown1, hr1, hg1, hb1⟩
  case round =>
    obtain ⟨k, hk, rfl, hown, hrd, hgr, hbx⟩ := hrel
    clear hown1 hr1 hg1 hb1
    have hc3 := hbx.c3
    by_cases hlt : k < n
    · go_wp2_with fail
      refine (number_any p b _ 0 18 wr hrd hs).mono ?_
      rintro e w2 ⟨rfl, hrd2, hg2, hsz2⟩
      have hown2 := owns_grown hown hg2 (by omega)
      have hbx2 := hbx.kept hg2 (by simp; omega)
      have hop0 := Pu.number_rng b 0 18 (Pu.code b ki fu pl n s k).2
      have hop1 := Pu.number_hi b 0 18 (Pu.code b ki fu pl n s k).2 (by decide)
      have hgr2 := grown_trans hgr hg2
      have HS : Hid _ := code_succ b ki fu pl n s k
      clear hown hrd hsz2 hbx hc3 hg2 hgr
      generalize Pu.number b 0 18 (Pu.code b ki fu pl n s k).2 = q at *
      obtain ⟨op, s2⟩ := q
      simp only at *
      obtain ⟨hop0, _⟩ := hop0
      have hc0 := hbx2.c0
      have hc1 := hbx2.c1
      have hc2 := hbx2.c2
      have hc3 := hbx2.c3
      go_wp2_with fail
      refine (argRange_any ki fu pl n op _ hki hfu hpl (by omega) hop0 hop1).mono ?_
      rintro e w3 ⟨rfl, hg3⟩
      have hown3 := hown2.kept hg3 (by cases u5.ownBlock <;> simp)
      have hbx3 := hbx2.kept hg3 (by simp)
      have hrd3 := hrd2.kept hg3 (by simp)
      have hgr3 := grown_trans hgr2 (grown_none hg3)
      clear hown2 hbx2 hrd2 hgr2 hg3 hc0 hc1 hc2 hc3
      go_wp2_with fail
      refine (number_any p b _ _ _ w3 hrd3 hs).mono ?_
      rintro e w4 ⟨rfl, hrd4, hg4, hsz4⟩
      have hown4 := owns_grown hown3 hg4 (by omega)
      have hbx4 := hbx3.kept hg4 (by simp; omega)
      have hgr4 := grown_trans hgr3 hg4
      clear hown3 hbx3 hrd3 hgr3 hg4 hsz4
      generalize Pu.number b (Pu.argLo op) (Pu.argHi ki fu pl n op) s2 = q at *
      obtain ⟨arg, s3⟩ := q
      simp only at *
      go_wp2_with (at_builtin; refine wpList_append_own _ rfl _ _ 52 rfl (w.heap.size + 1) 56 i0 (.agg #[.int .i64 0, .int .i64 0]) 2 16 Tryz.underlying52 hi0 hz0 hz1 hz2 rfl (by decide) _ _ _ rfl (hown4.alloc _) ⟨w4.heap.size, 0, none⟩ 1 1 [.int .i64 op, .int .i64 arg] rfl rfl (cell_two _ _ _ _) ?c2 ?c3 ?c4 ?c5 ?_)
      case c2 => intro u hu; simp at hu; rcases hu with rfl | rfl <;> rfl
      case c3 => unfold maxLen; omega
      case c4 => omega
      case c5 => have := hgr4.size; have := hbx4.lt; simp; omega
      intro v' w5 hown' hgrow _
      have hgr5 : w.grownBy w5 (some p) := grown_append (B := w.heap.size) rfl hgr4 (owns_base (hown4.alloc _) (by omega)) (World.grownBy_alloc w4 _ (some p)) hgrow
      have hrd5 : Rd w5 p b s3 := (hrd4.kept (World.grownBy_alloc w4 _ none) (by simp)).kept hgrow (fun e => by have := (hown4.lt p e.symm).1; omega)
      have hbx5 := (hbx4.kept (World.grownBy_alloc w4 _ none) (by simp)).kept hgrow (fun e => by have := (hown4.lt _ e.symm).1; omega)
      clear hown4 hgrow hrd4 hgr4 hbx4
      go_wp2
      go_roundw
      case rel => exact ⟨k + 1, hlt, by go_num, by rw [HS.out, cc_snoc]; exact hown', by rw [HS.out]; exact hrd5, hgr5, hbx5⟩
      case measure => simp [intOf]; omega
    · go_wp2_with fail
      have hkn : k = n := by omega
      subst hkn
      go_ret
      exact ⟨_, rfl, owns_base hown (by omega), hrd, hgr⟩
end Go.Proofs.YtjamgmbdilkbcaaGreat
