import Derived.Test.YtjamgmbdilkbcaaLotGased01
/- Code without jumps, plainly. No program here. -/
namespace Go.Proofs.Ytjamgmbdilkbcaa
namespace Ln

/-- the module that is written, but for the code. -/
def fn (c : List (Int × Int)) : Pu.Fn := ⟨[1, 2, 3, 4], [], [0, 1], c⟩
def md (c : List (Int × Int)) : Pu.Md := ⟨[0, 1, 2, 3], [fn c]⟩

def place (i : Nat) : Int := if i < 4 then (i : Int) + 1 else if i = 4 then 0 else 1
def mayCopy (k : Int) : Bool := decide (k = 0 ∨ k = 2 ∨ k = 4)
def mayDrop (k : Int) : Bool := decide (k = 0 ∨ k = 3 ∨ k = 4)

/-- what is being written. -/
structure L where
  code : List (Int × Int)
  stk : List Int
  full : List Bool
  well : Bool

def write (op arg : Int) (w : L) : L := { w with code := w.code ++ [(op, arg)] }
def take (k : Int) (w : L) : L := if w.stk.getLast? = some k then { w with stk := w.stk.dropLast } else { w with well := false }
def put (k : Int) (w : L) : L := { w with stk := w.stk ++ [k], well := w.well && decide (w.stk.length + 1 ≤ 16) }
def copyAt (i : Nat) (w : L) : L := put (place i) { write 8 i w with well := w.well && w.full.getD i false && mayCopy (place i) }
def moveAt (i : Nat) (w : L) : L := put (place i) { write 9 i w with well := w.well && w.full.getD i false, full := w.full.set i false }
def keepAt (i : Nat) (w : L) : L :=
  let u := take (place i) { write 10 i w with well := w.well && (!(w.full.getD i false) || mayDrop (place i)) }
  { u with full := u.full.set i true }
def drop (w : L) : L :=
  if w.stk = [] then { write 11 0 w with well := false }
  else { write 11 0 w with well := w.well && mayDrop (w.stk.getLast?.getD 0), stk := w.stk.dropLast }
def open_ (k : Int) (w : L) : L := put 0 (take k (write 13 k w))

def pick (c : Int) (n : Int) : Int := (if c < 0 then -(c + 1) else c) % n
def arg (c : Int) : Nat := (pick c 600 / 10 % 6).toNat

def does (c : Int) (w : L) : L :=
  let d := pick c 600
  let a := arg c
  if d % 10 = 0 then put 0 (write 1 (d % 250) w)
  else if d % 10 = 1 then put 0 (take 0 (take 0 (write 4 0 w)))
  else if d % 10 = 2 ∨ d % 10 = 3 then moveAt a w
  else if d % 10 = 4 ∨ d % 10 = 5 then copyAt a w
  else if d % 10 = 6 then keepAt a w
  else if d % 10 = 7 then drop w
  else if d % 10 = 8 then put ((a % 4 : Nat) + 1) (take 0 (write 12 ((a % 4 : Nat) + 1) w))
  else open_ ((a % 4 : Nat) + 1) w

/-- one value of the stack is cleared away. -/
def clear1 (w : L) : L :=
  let k := w.stk.getLast?.getD 0
  drop (if mayDrop k = true then w else open_ k w)
def clearN : Nat → L → L
  | 0, w => w
  | n + 1, w => if w.stk = [] then w else clearN n (clear1 w)
def spot1 (i : Nat) (w : L) : L :=
  if w.full.getD i false = true ∧ mayDrop (place i) = false then drop (open_ (place i) (moveAt i w)) else w
def spotsN : Nat → L → L
  | 0, w => w
  | n + 1, w => spot1 n (spotsN n w)
def clean (w : L) : L := spotsN 6 (clearN w.stk.length w)
def left (w : L) : Bool := (List.range 6).all (fun i => !(w.full.getD i false) || mayDrop (place i)) && decide (w.stk = [])

def start : L := ⟨[], [], [true, true, true, true, false, false], true⟩
def doesN (tape : List Int) : Nat → L
  | 0 => start
  | n + 1 => if (doesN tape n).well = true then does (tape.getD n 0) (doesN tape n) else doesN tape n

/-- an instruction that may be written. -/
def Fit (x : Int × Int) : Prop :=
  (x.1 = 1 ∧ 0 ≤ x.2 ∧ x.2 ≤ 255) ∨ (x.1 = 4 ∧ x.2 = 0) ∨ (x.1 = 11 ∧ x.2 = 0) ∨ ((x.1 = 8 ∨ x.1 = 9 ∨ x.1 = 10) ∧ 0 ≤ x.2 ∧ x.2 ≤ 5) ∨ ((x.1 = 12 ∨ x.1 = 13) ∧ 1 ≤ x.2 ∧ x.2 ≤ 4)

/-- the run of code without jumps. -/
def runS (m : Pu.Md) (f : Pu.Fn) : List (Int × Int) → Fl.S → Option Fl.S
  | [], t => some t
  | x :: l, t => (Fl.after m f x t).bind (runS m f l)
theorem runS_snoc (m : Pu.Md) (f : Pu.Fn) (x : Int × Int) : ∀ (l : List (Int × Int)) (t : Fl.S), runS m f (l ++ [x]) t = (runS m f l t).bind (Fl.after m f x)
  | [], t => by cases h : Fl.after m f x t <;> simp [runS, h]
  | y :: l, t => by
    simp only [List.cons_append, runS]
    cases Fl.after m f y t with
    | none => rfl
    | some u => exact runS_snoc m f x l u

def stOf (w : L) : Fl.S := ⟨w.stk, w.full ++ [false, false]⟩

/-- what is written, and what it comes to. -/
structure Ok (w : L) : Prop where
  fit : ∀ x ∈ w.code, Fit x
  len : w.full.length = 6
  kinds : ∀ k ∈ w.stk, 0 ≤ k ∧ k ≤ 4
  run : runS (md []) (fn []) w.code (Fl.init (fn [])) = if w.well = true then some (stOf w) else none
  short : w.well = true → w.stk.length ≤ 16

/-- one more instruction. -/
theorem ok_step {w w' : L} {x : Int × Int} (h : Ok w) (hw : w.well = true) (hc : w'.code = w.code ++ [x]) (hx : Fit x) (hl : w'.full.length = 6) (hk : ∀ k ∈ w'.stk, 0 ≤ k ∧ k ≤ 4)
    (ha : Fl.after (md []) (fn []) x (stOf w) = if w'.well = true then some (stOf w') else none) (hs : w'.well = true → w'.stk.length ≤ 16) : Ok w' := by
  refine ⟨fun y hy => ?_, hl, hk, ?_, hs⟩
  · rw [hc] at hy
    rcases List.mem_append.1 hy with hy | hy
    · exact h.fit y hy
    · rw [List.mem_singleton] at hy; subst hy; exact hx
  · rw [hc, runS_snoc, h.run, if_pos hw]
    exact ha

theorem placesEq : Fl.places (fn []) = [1, 2, 3, 4, 0, 1] := rfl
theorem place_eq (i : Nat) (h : i < 6) : (Fl.places (fn [])).getD i 0 = place i := by
  rw [placesEq]
  have : i = 0 ∨ i = 1 ∨ i = 2 ∨ i = 3 ∨ i = 4 ∨ i = 5 := by omega
  rcases this with rfl | rfl | rfl | rfl | rfl | rfl <;> rfl
theorem place_rng (i : Nat) : 0 ≤ place i ∧ place i ≤ 4 := by unfold place; split <;> (try split) <;> omega
theorem may_copy (k : Int) (h : 0 ≤ k ∧ k ≤ 4) : Fl.may (md []) k 1 = mayCopy k := by
  have : k = 0 ∨ k = 1 ∨ k = 2 ∨ k = 3 ∨ k = 4 := by omega
  rcases this with rfl | rfl | rfl | rfl | rfl <;> rfl
theorem may_drop (k : Int) (h : 0 ≤ k ∧ k ≤ 4) : Fl.may (md []) k 2 = mayDrop k := by
  have : k = 0 ∨ k = 1 ∨ k = 2 ∨ k = 3 ∨ k = 4 := by omega
  rcases this with rfl | rfl | rfl | rfl | rfl <;> rfl
theorem full_at {w : L} (hl : w.full.length = 6) {i : Nat} (h : i < 6) : (w.full ++ [false, false]).getD i false = w.full.getD i false := by
  rw [List.getD_eq_getElem?_getD, List.getD_eq_getElem?_getD, List.getElem?_append_left (by omega)]
theorem set_at {w : L} (hl : w.full.length = 6) {i : Nat} (h : i < 6) (b : Bool) : (w.full ++ [false, false]).set i b = w.full.set i b ++ [false, false] := by
  rw [List.set_append_left _ _ (by omega)]

/-- the stack's own steps. -/
theorem take_is (k : Int) (w : L) (hw : w.well = true) : Fl.takeS k (stOf w) = if (take k w).well = true then some (stOf (take k w)) else none := by
  unfold take Fl.takeS stOf
  by_cases h : w.stk.getLast? = some k <;> simp [h, hw]
theorem put_is (k : Int) (w : L) (hw : w.well = true) : Fl.putS k (stOf w) = if (put k w).well = true then some (stOf (put k w)) else none := by
  unfold put Fl.putS stOf
  by_cases h : w.stk.length < 16
  · rw [if_pos h, if_pos (by simp [hw]; omega)]
  · rw [if_neg h, if_neg (by simp [hw]; omega)]
theorem put_bad (k : Int) (w : L) (hw : w.well = false) : (put k w).well = false := by simp [put, hw]
theorem take_bad (k : Int) (w : L) (hw : w.well = false) : (take k w).well = false := by unfold take; split <;> simp [hw]
theorem take_put_is (k p : Int) (w : L) (hw : w.well = true) : (Fl.takeS k (stOf w)).bind (Fl.putS p) = if (put p (take k w)).well = true then some (stOf (put p (take k w))) else none := by
  rw [take_is k w hw]
  cases h : (take k w).well with
  | true => rw [if_pos rfl]; exact put_is p (take k w) h
  | false => rw [if_neg (by simp), if_neg (by simp [put_bad _ _ h])]; rfl

theorem take_kinds {k : Int} {w : L} (h : ∀ x ∈ w.stk, 0 ≤ x ∧ x ≤ 4) : ∀ x ∈ (take k w).stk, 0 ≤ x ∧ x ≤ 4 := by
  unfold take
  split
  · exact fun x hx => h x (List.dropLast_subset _ hx)
  · exact h
theorem put_kinds {k : Int} {w : L} (h : ∀ x ∈ w.stk, 0 ≤ x ∧ x ≤ 4) (hk : 0 ≤ k ∧ k ≤ 4) : ∀ x ∈ (put k w).stk, 0 ≤ x ∧ x ≤ 4 := by
  intro x hx
  unfold put at hx
  rcases List.mem_append.1 hx with hx | hx
  · exact h x hx
  · rw [List.mem_singleton] at hx; subst hx; exact hk
theorem put_short {k : Int} {w : L} (h : (put k w).well = true) : (put k w).stk.length ≤ 16 := by
  unfold put at h ⊢
  simp only [Bool.and_eq_true, decide_eq_true_eq] at h
  simp only [List.length_append, List.length_singleton]
  exact h.2
theorem take_len {k : Int} {w : L} : (take k w).stk.length ≤ w.stk.length := by
  unfold take; split <;> simp
theorem take_code (k : Int) (w : L) : (take k w).code = w.code ∧ (take k w).full = w.full := by unfold take; split <;> exact ⟨rfl, rfl⟩

theorem push_ok {w : L} (h : Ok w) (hw : w.well = true) (n : Int) (hn : 0 ≤ n ∧ n ≤ 255) : Ok (put 0 (write 1 n w)) :=
  ok_step (x := (1, n)) h hw rfl (.inl ⟨rfl, hn⟩) h.len (put_kinds h.kinds (by omega)) (put_is 0 (write 1 n w) hw) put_short
theorem less_ok {w : L} (h : Ok w) (hw : w.well = true) : Ok (put 0 (take 0 (take 0 (write 4 0 w)))) := by
  refine ok_step (x := (4, 0)) h hw ?_ (.inr (.inl ⟨rfl, rfl⟩)) ?_ (put_kinds (take_kinds (take_kinds h.kinds)) (by omega)) ?_ put_short
  · show (take 0 (take 0 (write 4 0 w))).code = _
    rw [(take_code _ _).1, (take_code _ _).1]; rfl
  · show (take 0 (take 0 (write 4 0 w))).full.length = _
    rw [(take_code _ _).2, (take_code _ _).2]; exact h.len
  · show ((Fl.takeS 0 (stOf (write 4 0 w))).bind (Fl.takeS 0)).bind (Fl.putS 0) = _
    rw [take_is 0 (write 4 0 w) hw]
    cases h1 : (take 0 (write 4 0 w)).well with
    | true => rw [if_pos rfl]; exact take_put_is 0 0 _ h1
    | false => rw [if_neg (by simp), if_neg (by simp [put_bad _ _ (take_bad _ _ h1)])]; rfl
theorem make_ok {w : L} (h : Ok w) (hw : w.well = true) (k : Int) (hk : 1 ≤ k ∧ k ≤ 4) : Ok (put k (take 0 (write 12 k w))) := by
  refine ok_step (x := (12, k)) h hw ?_ (.inr (.inr (.inr (.inr ⟨.inl rfl, hk⟩)))) ?_ (put_kinds (take_kinds h.kinds) (by omega)) (take_put_is 0 k (write 12 k w) hw) put_short
  · show (take 0 (write 12 k w)).code = _
    rw [(take_code _ _).1]; rfl
  · show (take 0 (write 12 k w)).full.length = _
    rw [(take_code _ _).2]; exact h.len
theorem open_ok {w : L} (h : Ok w) (hw : w.well = true) (k : Int) (hk : 1 ≤ k ∧ k ≤ 4) : Ok (open_ k w) := by
  refine ok_step (x := (13, k)) h hw ?_ (.inr (.inr (.inr (.inr ⟨.inr rfl, hk⟩)))) ?_ (put_kinds (take_kinds h.kinds) (by omega)) (take_put_is k 0 (write 13 k w) hw) put_short
  · show (take k (write 13 k w)).code = _
    rw [(take_code _ _).1]; rfl
  · show (take k (write 13 k w)).full.length = _
    rw [(take_code _ _).2]; exact h.len
theorem drop_ok {w : L} (h : Ok w) (hw : w.well = true) : Ok (drop w) := by
  have ha : Fl.after (md []) (fn []) (11, 0) (stOf w) = Fl.dropS (md []) (stOf w) := rfl
  by_cases hs : w.stk = []
  · have hd : drop w = { write 11 0 w with well := false } := by unfold drop; rw [if_pos hs]
    rw [hd]
    refine ok_step (x := (11, 0)) h hw rfl (.inr (.inr (.inl ⟨rfl, rfl⟩))) h.len h.kinds ?_ (fun h => by simp at h)
    rw [ha]
    unfold Fl.dropS stOf
    rw [if_neg (by simp [hs]), if_neg (by simp)]
  · have hd : drop w = { write 11 0 w with well := w.well && mayDrop (w.stk.getLast?.getD 0), stk := w.stk.dropLast } := by unfold drop; rw [if_neg hs]
    rw [hd]
    have hr : 0 ≤ w.stk.getLast?.getD 0 ∧ w.stk.getLast?.getD 0 ≤ 4 := by
      rw [List.getLast?_eq_some_getLast hs]; exact h.kinds _ (List.getLast_mem hs)
    refine ok_step (x := (11, 0)) h hw rfl (.inr (.inr (.inl ⟨rfl, rfl⟩))) h.len (fun k hk => h.kinds k (List.dropLast_subset _ hk)) ?_ (fun _ => ?_)
    · rw [ha]
      unfold Fl.dropS stOf
      simp only
      rw [may_drop _ hr, hw]
      cases mayDrop (w.stk.getLast?.getD 0) <;> simp [hs, write]
    · have := h.short hw
      simp only [List.length_dropLast]
      omega
theorem copy_ok {w : L} (h : Ok w) (hw : w.well = true) (i : Nat) (hi : i < 6) : Ok (copyAt i w) := by
  refine ok_step (x := (8, (i : Int))) h hw rfl (.inr (.inr (.inr (.inl ⟨.inl rfl, by omega, by omega⟩)))) h.len (put_kinds h.kinds (place_rng i)) ?_ put_short
  show Fl.copyS (md []) (fn []) ((i : Int).toNat) (stOf w) = _
  rw [show ((i : Int).toNat) = i from by omega]
  unfold Fl.copyS
  rw [place_eq i hi, may_copy _ (place_rng i)]
  have e := full_at h.len hi
  by_cases hf : w.full.getD i false = true ∧ mayCopy (place i) = true
  · have := put_is (place i) { write 8 i w with well := w.well && w.full.getD i false && mayCopy (place i) } (by simp only [hw, hf.1, hf.2, Bool.and_self])
    rw [if_pos ⟨by unfold stOf; simp only; rw [e]; exact hf.1, hf.2⟩]
    exact this
  · rw [if_neg (by unfold stOf; simp only; rw [e]; exact hf), if_neg]
    unfold copyAt put
    simp only [hw, Bool.true_and, Bool.and_eq_true]
    exact fun h => hf h.1
theorem move_ok {w : L} (h : Ok w) (hw : w.well = true) (i : Nat) (hi : i < 6) : Ok (moveAt i w) := by
  refine ok_step (x := (9, (i : Int))) h hw rfl (.inr (.inr (.inr (.inl ⟨.inr (.inl rfl), by omega, by omega⟩)))) (by show (w.full.set i false).length = 6; rw [List.length_set]; exact h.len) (put_kinds h.kinds (place_rng i)) ?_ put_short
  show Fl.moveS (fn []) ((i : Int).toNat) (stOf w) = _
  rw [show ((i : Int).toNat) = i from by omega]
  unfold Fl.moveS
  rw [place_eq i hi]
  have e := full_at h.len hi
  have e2 := set_at h.len hi false
  by_cases hf : w.full.getD i false = true
  · have := put_is (place i) { write 9 i w with well := w.well && w.full.getD i false, full := w.full.set i false } (by simp only [hw, hf, Bool.and_self])
    rw [if_pos (by unfold stOf; simp only; rw [e]; exact hf)]
    unfold stOf at this ⊢
    simp only at this ⊢
    rw [e2]
    exact this
  · rw [if_neg (by unfold stOf; simp only; rw [e]; exact hf), if_neg]
    unfold moveAt put
    simp only [hw, Bool.true_and, Bool.and_eq_true]
    exact fun h => hf h.1
theorem keep_ok {w : L} (h : Ok w) (hw : w.well = true) (i : Nat) (hi : i < 6) : Ok (keepAt i w) := by
  have e := full_at h.len hi
  have hcl : Fl.canLose (md []) (fn []) (stOf w) i = (!(w.full.getD i false) || mayDrop (place i)) := by
    unfold Fl.canLose
    rw [place_eq i hi, may_drop _ (place_rng i)]
    unfold stOf
    simp only
    rw [e]
  refine ok_step (x := (10, (i : Int))) h hw ?_ (.inr (.inr (.inr (.inl ⟨.inr (.inr rfl), by omega, by omega⟩)))) ?_ (fun k hk => take_kinds (w := { write 10 i w with well := _ }) h.kinds k hk) ?_ (fun hww => ?_)
  · show (take (place i) { write 10 i w with well := _ }).code = _
    rw [(take_code _ _).1]; rfl
  · show ((take (place i) { write 10 i w with well := _ }).full.set i true).length = 6
    rw [List.length_set, (take_code _ _).2]; exact h.len
  · show Fl.keepS (md []) (fn []) ((i : Int).toNat) (stOf w) = _
    rw [show ((i : Int).toNat) = i from by omega]
    unfold Fl.keepS
    rw [place_eq i hi]
    unfold Fl.takeS
    by_cases hk : w.stk.getLast? = some (place i)
    · have hka : keepAt i w = ⟨w.code ++ [(10, (i : Int))], w.stk.dropLast, w.full.set i true, w.well && (!(w.full.getD i false) || mayDrop (place i))⟩ := by
        unfold keepAt take write; simp [hk]
      rw [hka, if_pos (show (stOf w).stk.getLast? = some (place i) from hk)]
      have hcl2 : Fl.canLose (md []) (fn []) ⟨(stOf w).stk.dropLast, (stOf w).full⟩ i = (!(w.full.getD i false) || mayDrop (place i)) := hcl
      simp only [Option.bind_some]
      rw [hcl2, hw]
      have e2 := set_at h.len hi true
      cases (!(w.full.getD i false) || mayDrop (place i)) with
      | true => rw [if_pos rfl, if_pos (by simp)]; unfold stOf; simp only; rw [e2]
      | false => rw [if_neg (by simp), if_neg (by simp)]
    · have hka : (keepAt i w).well = false := by
        unfold keepAt take write; simp [hk]
      rw [hka, if_neg (show ¬ (stOf w).stk.getLast? = some (place i) from hk), if_neg (by simp)]
      rfl
  · have h1 := h.short hw
    have : (take (place i) { write 10 i w with well := w.well && (!(w.full.getD i false) || mayDrop (place i)) }).stk.length ≤ w.stk.length := take_len
    show (take (place i) { write 10 i w with well := w.well && (!(w.full.getD i false) || mayDrop (place i)) }).stk.length ≤ 16
    omega

theorem arg_lt (c : Int) : arg c < 6 := by unfold arg; omega
theorem does_ok {w : L} (h : Ok w) (hw : w.well = true) (c : Int) : Ok (does c w) := by
  have ha := arg_lt c
  unfold does
  simp only
  split
  · exact push_ok h hw _ (by omega)
  split
  · exact less_ok h hw
  split
  · exact move_ok h hw _ ha
  split
  · exact copy_ok h hw _ ha
  split
  · exact keep_ok h hw _ ha
  split
  · exact drop_ok h hw
  split
  · exact make_ok h hw _ (by omega)
  · exact open_ok h hw _ (by omega)
theorem start_ok : Ok start := ⟨by simp [start], rfl, by simp [start], rfl, by simp [start]⟩
theorem doesN_ok (tape : List Int) : ∀ n, Ok (doesN tape n)
  | 0 => start_ok
  | n + 1 => by
    unfold doesN
    split
    · exact does_ok (doesN_ok tape n) (by assumption) _
    · exact doesN_ok tape n
end Ln
end Go.Proofs.Ytjamgmbdilkbcaa
