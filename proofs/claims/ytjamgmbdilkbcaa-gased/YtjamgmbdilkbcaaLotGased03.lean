import Derived.Test.YtjamgmbdilkbcaaLotGased02
import Derived.Test.YtjamgmbdilkbcaaRows
import Derived.WalkKit
import Derived.WalkSpells
import Derived.WalkLawsBesides
import Derived.BigQuiet
import Derived.Deep.QuietTactic
import Derived.Test.YtjamgmbdilkbcaaLotGased01
/- Code without jumps: what it comes to. No program here. -/
namespace Go.Proofs.Ytjamgmbdilkbcaa
namespace Ln

theorem getLast_snoc {l : List Int} (h : l ≠ []) : l.dropLast ++ [l.getLast?.getD 0] = l := by
  rw [List.getLast?_eq_some_getLast h]; exact List.dropLast_concat_getLast h

/-- a value that may be dropped. -/
theorem drop_well {w : L} (hs : w.stk ≠ []) (hd : mayDrop (w.stk.getLast?.getD 0) = true) : drop w = ⟨w.code ++ [(11, 0)], w.stk.dropLast, w.full, w.well⟩ := by
  unfold drop write; rw [if_neg hs, hd]; simp
theorem open_well {w : L} {r : List Int} {k : Int} (hs : w.stk = r ++ [k]) (hr : r.length < 16) : open_ k w = ⟨w.code ++ [(13, k)], r ++ [0], w.full, w.well⟩ := by
  unfold open_ put take write
  simp [hs]
  omega

theorem doesN_len (tape : List Int) : ∀ n, (doesN tape n).code.length ≤ n
  | 0 => by simp [doesN, start]
  | n + 1 => by
    have ih := doesN_len tape n
    unfold doesN
    split
    · have : (does (tape.getD n 0) (doesN tape n)).code.length = (doesN tape n).code.length + 1 := by
        unfold does
        simp only
        split
        · simp [put, write]
        split
        · simp [put, (take_code _ _).1, write]
        split
        · simp [moveAt, put, write]
        split
        · simp [copyAt, put, write]
        split
        · simp [keepAt, (take_code _ _).1, write]
        split
        · unfold drop; split <;> simp [write]
        split
        · simp [put, (take_code _ _).1, write]
        · simp [open_, put, (take_code _ _).1, write]
      omega
    · omega

structure Clr (w w' : L) (n : Nat) : Prop where
  ok : Ok w'
  well : w'.well = true
  full : w'.full = w.full
  len : w'.code.length ≤ w.code.length + n

theorem clear1_ok {w : L} (h : Ok w) (hw : w.well = true) (hs : w.stk ≠ []) : Clr w (clear1 w) 2 ∧ (clear1 w).stk = w.stk.dropLast := by
  have hk : 0 ≤ w.stk.getLast?.getD 0 ∧ w.stk.getLast?.getD 0 ≤ 4 := by
    rw [List.getLast?_eq_some_getLast hs]; exact h.kinds _ (List.getLast_mem hs)
  have hsn := getLast_snoc hs
  have h16 := h.short hw
  have hdl : w.stk.dropLast.length < 16 := by
    have : w.stk.length ≠ 0 := by simpa using hs
    simp only [List.length_dropLast]; omega
  unfold clear1
  simp only
  by_cases hd : mayDrop (w.stk.getLast?.getD 0) = true
  · rw [if_pos hd]
    have h1 := drop_ok h hw
    rw [drop_well hs hd] at h1 ⊢
    exact ⟨⟨h1, hw, rfl, by simp⟩, rfl⟩
  · rw [if_neg hd]
    have hk1 : 1 ≤ w.stk.getLast?.getD 0 := by
      have h0 : w.stk.getLast?.getD 0 ≠ 0 := fun e => hd (by rw [e]; rfl)
      omega
    have h1 := open_ok h hw (w.stk.getLast?.getD 0) ⟨hk1, hk.2⟩
    rw [open_well (r := w.stk.dropLast) hsn.symm hdl] at h1 ⊢
    have h2 := drop_ok h1 hw
    rw [drop_well (by simp) (by simp [mayDrop])] at h2 ⊢
    exact ⟨⟨h2, hw, rfl, by simp⟩, by simp⟩

theorem clearN_ok : ∀ (n : Nat) {w : L}, Ok w → w.well = true → w.stk.length ≤ n → Clr w (clearN n w) (2 * n) ∧ (clearN n w).stk = []
  | 0, w, h, hw, hn => by
    have hs : w.stk = [] := List.eq_nil_of_length_eq_zero (by omega)
    exact ⟨⟨h, hw, rfl, by simp [clearN]⟩, hs⟩
  | n + 1, w, h, hw, hn => by
    unfold clearN
    by_cases hs : w.stk = []
    · rw [if_pos hs]
      exact ⟨⟨h, hw, rfl, by omega⟩, hs⟩
    · rw [if_neg hs]
      obtain ⟨c1, e1⟩ := clear1_ok h hw hs
      obtain ⟨c2, e2⟩ := clearN_ok n c1.ok c1.well (by rw [e1]; simp only [List.length_dropLast]; omega)
      exact ⟨⟨c2.ok, c2.well, c2.full.trans c1.full, by have := c1.len; have := c2.len; omega⟩, e2⟩

theorem spot1_ok {w : L} (h : Ok w) (hw : w.well = true) (hs : w.stk = []) (i : Nat) (hi : i < 6) : Ok (spot1 i w) ∧ (spot1 i w).well = true ∧ (spot1 i w).stk = [] ∧ (spot1 i w).code.length ≤ w.code.length + 3 := by
  unfold spot1
  by_cases hf : w.full.getD i false = true ∧ mayDrop (place i) = false
  · rw [if_pos hf]
    have hp := place_rng i
    have hp1 : 1 ≤ place i := by
      have h0 : place i ≠ 0 := fun e => by rw [e] at hf; simp [mayDrop] at hf
      omega
    have h1 := move_ok h hw i hi
    have e1 : moveAt i w = ⟨w.code ++ [(9, (i : Int))], [place i], w.full.set i false, true⟩ := by
      unfold moveAt put write; simp only [hs, hw, hf.1]; rfl
    rw [e1] at h1 ⊢
    have h2 := open_ok h1 rfl (place i) ⟨hp1, hp.2⟩
    rw [open_well (r := []) rfl (by simp)] at h2 ⊢
    have h3 := drop_ok h2 rfl
    rw [drop_well (by simp) (by simp [mayDrop])] at h3 ⊢
    exact ⟨h3, rfl, rfl, by simp⟩
  · rw [if_neg hf]
    exact ⟨h, hw, hs, by omega⟩
theorem spotsN_ok {w : L} (h : Ok w) (hw : w.well = true) (hs : w.stk = []) : ∀ n, n ≤ 6 → Ok (spotsN n w) ∧ (spotsN n w).well = true ∧ (spotsN n w).stk = [] ∧ (spotsN n w).code.length ≤ w.code.length + 3 * n
  | 0, _ => ⟨h, hw, hs, by simp [spotsN]⟩
  | n + 1, hn => by
    obtain ⟨h1, h2, h3, h4⟩ := spotsN_ok h hw hs n (by omega)
    obtain ⟨g1, g2, g3, g4⟩ := spot1_ok h1 h2 h3 n (by omega)
    exact ⟨g1, g2, g3, by unfold spotsN; omega⟩

/-- what is written in the end, ahead of the Ret. -/
def line (tape : List Int) (cl : Bool) : L :=
  let w := doesN tape (min tape.length 30)
  if cl = true ∧ w.well = true then clean w else w
theorem line_ok (tape : List Int) (cl : Bool) : Ok (line tape cl) ∧ (line tape cl).code.length ≤ 80 := by
  have h := doesN_ok tape (min tape.length 30)
  have hl := doesN_len tape (min tape.length 30)
  have hm : min tape.length 30 ≤ 30 := Nat.min_le_right _ _
  unfold line
  simp only
  by_cases hc : cl = true ∧ (doesN tape (min tape.length 30)).well = true
  · rw [if_pos hc]
    have h16 := h.short hc.2
    obtain ⟨c1, e1⟩ := clearN_ok _ h hc.2 (Nat.le_refl _)
    obtain ⟨g1, _, _, g4⟩ := spotsN_ok c1.ok c1.well e1 6 (Nat.le_refl _)
    have := c1.len
    exact ⟨g1, by unfold clean; omega⟩
  · rw [if_neg hc]
    exact ⟨h, by omega⟩

/-- the code as it is written. -/
def codeOf (w : L) : List (Int × Int) := w.code ++ [(0, 0)]

theorem fit_is {x : Int × Int} (h : Fit x) (n : Int) : Pu.isInstr 4 1 6 n x = true := by
  unfold Fit at h
  unfold Pu.isInstr Pu.argLo Pu.argHi
  obtain ⟨o, a⟩ := x
  simp only at h ⊢
  rcases h with ⟨rfl, h⟩ | ⟨rfl, h⟩ | ⟨rfl, h⟩ | ⟨rfl | rfl | rfl, h⟩ | ⟨rfl | rfl, h⟩ <;> simp <;> omega
theorem line_is (tape : List Int) (cl : Bool) : Pu.isMd (md (codeOf (line tape cl))) = true := by
  obtain ⟨h, hl⟩ := line_ok tape cl
  have hcode : Pu.isCode (codeOf (line tape cl)) 4 1 6 (codeOf (line tape cl)).length = true := by
    unfold Pu.isCode codeOf
    rw [List.all_eq_true]
    intro x hx
    rcases List.mem_append.1 hx with hx | hx
    · exact fit_is (h.fit x hx) _
    · rw [List.mem_singleton] at hx; subst hx; rfl
  have h1 : (codeOf (line tape cl)).length = (line tape cl).code.length + 1 := by simp [codeOf]
  unfold Pu.isMd Pu.isFn md fn
  simp only [List.all_cons, List.all_nil, List.length_cons, List.length_nil, Bool.and_true]
  refine Bool.and_eq_true_iff.2 ⟨by decide, Bool.and_eq_true_iff.2 ⟨by simp, Bool.and_eq_true_iff.2 ⟨by simp, Bool.and_eq_true_iff.2 ⟨by decide, Bool.and_eq_true_iff.2 ⟨by decide, Bool.and_eq_true_iff.2 ⟨by decide, Bool.and_eq_true_iff.2 ⟨?_, Bool.and_eq_true_iff.2 ⟨?_, hcode⟩⟩⟩⟩⟩⟩⟩⟩
  · simp [h1]
  · simp [h1]; omega
theorem line_decode (tape : List Int) (cl : Bool) : Pu.decode ⟨(Pu.wMd (md (codeOf (line tape cl)))).toArray⟩ = (md (codeOf (line tape cl)), 0, 0) := by
  obtain ⟨h, hl⟩ := line_ok tape cl
  have hi := line_is tape cl
  have hlen : (Pu.wMd (md (codeOf (line tape cl)))).length ≤ 1500 := by
    have hw : ∀ l : List (Int × Int), (Pu.wCode l).length = 2 * l.length := fun l => by
      induction l with
      | nil => rfl
      | cons a l ih => simp only [Pu.wCode, List.flatMap_cons, List.length_append, List.length_cons, List.length_nil] at ih ⊢; omega
    have h1 : (codeOf (line tape cl)).length = (line tape cl).code.length + 1 := by simp [codeOf]
    simp only [Pu.wMd, md, fn, Pu.wFns, Pu.wFn, Pu.wList, List.flatMap_cons, List.flatMap_nil, List.length_append, List.length_cons, List.length_nil, List.length_map, hw]
    omega
  have he : Pu.encode (md (codeOf (line tape cl))) = (Pu.wMd (md (codeOf (line tape cl))), 0) := by
    unfold Pu.encode
    rw [if_pos hi, if_neg (by omega)]
  have := (Pu.back (m := md (codeOf (line tape cl))) (by rw [he])).1
  rw [he] at this
  exact this

theorem after_same (c : List (Int × Int)) (x : Int × Int) (t : Fl.S) (h : x.1 ≠ 14) : Fl.after (md c) (fn c) x t = Fl.after (md []) (fn []) x t := by
  unfold Fl.after
  simp only [if_neg h]
  rfl
theorem fit_ops {x : Int × Int} (h : Fit x) : x.1 ≠ 14 ∧ ∀ i, Fl.leads x i = [i + 1] := by
  unfold Fit at h
  obtain ⟨o, a⟩ := x
  simp only at h
  unfold Fl.leads
  rcases h with ⟨rfl, _⟩ | ⟨rfl, _⟩ | ⟨rfl, _⟩ | ⟨rfl | rfl | rfl, _⟩ | ⟨rfl | rfl, _⟩ <;> exact ⟨by simp, fun i => by simp⟩

theorem runS_append (m : Pu.Md) (f : Pu.Fn) : ∀ (l r : List (Int × Int)) (t : Fl.S), runS m f (l ++ r) t = (runS m f l t).bind (runS m f r)
  | [], r, t => rfl
  | x :: l, r, t => by
    simp only [List.cons_append, runS]
    cases Fl.after m f x t with
    | none => rfl
    | some u => exact runS_append m f l r u
theorem runS_take (m : Pu.Md) (f : Pu.Fn) {l : List (Int × Int)} {i : Nat} (hi : i < l.length) (t : Fl.S) : runS m f (l.take (i + 1)) t = (runS m f (l.take i) t).bind (Fl.after m f (l.getD i (0, 0))) := by
  rw [List.take_succ_eq_append_getElem hi, runS_snoc, List.getD_eq_getElem?_getD, List.getElem?_eq_getElem hi]
  rfl

theorem code_at {l : List (Int × Int)} {i : Nat} (hi : i < l.length) : (l ++ [((0 : Int), (0 : Int))]).getD i (0, 0) = l.getD i (0, 0) := by
  rw [List.getD_eq_getElem?_getD, List.getD_eq_getElem?_getD, List.getElem?_append_left hi]
theorem code_end (l : List (Int × Int)) : (l ++ [((0 : Int), (0 : Int))]).getD l.length (0, 0) = (0, 0) := by
  rw [List.getD_eq_getElem?_getD, List.getElem?_append_right (Nat.le_refl _)]; simp

theorem sound_iff (l : List (Int × Int)) (hf : ∀ x ∈ l, Fit x) : Fl.Sound (md (l ++ [(0, 0)])) (fn (l ++ [(0, 0)])) ↔ ∃ s s', runS (md []) (fn []) l (Fl.init (fn [])) = some s ∧ Fl.after (md []) (fn []) (0, 0) s = some s' := by
  have hfi : ∀ i, i < l.length → Fit (l.getD i (0, 0)) := fun i hi => by
    rw [List.getD_eq_getElem?_getD, List.getElem?_eq_getElem hi]; exact hf _ (List.getElem_mem hi)
  constructor
  · rintro ⟨τ, hτ⟩
    have key : ∀ i, i ≤ l.length → ∃ s, runS (md []) (fn []) (l.take i) (Fl.init (fn [])) = some s ∧ τ i = some s := by
      intro i
      induction i with
      | zero => exact fun _ => ⟨_, rfl, hτ.start⟩
      | succ i ih =>
        intro hi
        obtain ⟨s, h1, h2⟩ := ih (by omega)
        obtain ⟨_, s', h3, h4⟩ := hτ.step i s h2
        have e : (fn (l ++ [(0, 0)])).code.getD i (0, 0) = l.getD i (0, 0) := code_at (by omega)
        have hx := fit_ops (hfi i (by omega))
        rw [e] at h3 h4
        rw [after_same _ _ _ hx.1] at h3
        rw [hx.2] at h4
        exact ⟨s', by rw [runS_take _ _ (by omega), h1]; exact h3, h4 (i + 1) (by simp)⟩
    obtain ⟨s, h1, h2⟩ := key l.length (Nat.le_refl _)
    obtain ⟨_, s', h3, _⟩ := hτ.step _ s h2
    have e : (fn (l ++ [(0, 0)])).code.getD l.length (0, 0) = (0, 0) := code_end l
    rw [e, after_same _ _ _ (by simp)] at h3
    rw [List.take_length] at h1
    exact ⟨s, s', h1, h3⟩
  · rintro ⟨s, s', h1, h2⟩
    refine ⟨fun i => if i ≤ l.length then runS (md []) (fn []) (l.take i) (Fl.init (fn [])) else none, ⟨by simp [runS]; rfl, fun i t hi => ?_⟩⟩
    split at hi
    · rename_i hl
      have hlen : (fn (l ++ [(0, 0)])).code.length = l.length + 1 := by simp [fn]
      refine ⟨by omega, ?_⟩
      by_cases hlt : i < l.length
      · have e : (fn (l ++ [(0, 0)])).code.getD i (0, 0) = l.getD i (0, 0) := code_at hlt
        have hx := fit_ops (hfi i hlt)
        rw [e, after_same _ _ _ hx.1, hx.2]
        have h3 := runS_take (md []) (fn []) hlt (Fl.init (fn []))
        rw [hi] at h3
        simp only [Option.bind_some] at h3
        have h4 : runS (md []) (fn []) l (Fl.init (fn [])) = (runS (md []) (fn []) (l.take (i + 1)) (Fl.init (fn []))).bind (runS (md []) (fn []) (l.drop (i + 1))) := by
          rw [← runS_append, List.take_append_drop]
        rw [h1] at h4
        cases h5 : runS (md []) (fn []) (l.take (i + 1)) (Fl.init (fn [])) with
        | none => rw [h5] at h4; simp at h4
        | some u =>
          refine ⟨u, by rw [← h3, h5], fun j hj => ?_⟩
          rw [List.mem_singleton] at hj
          subst hj
          rw [if_pos (by omega), h5]
      · have hil : i = l.length := by omega
        subst hil
        have e : (fn (l ++ [(0, 0)])).code.getD l.length (0, 0) = (0, 0) := code_end l
        rw [e, after_same _ _ _ (by simp)]
        rw [List.take_length, h1] at hi
        cases hi
        exact ⟨s', h2, fun j hj => by simp [Fl.leads] at hj⟩
    · cases hi

theorem left_iff {w : L} (h : Ok w) : (∃ s', Fl.after (md []) (fn []) (0, 0) (stOf w) = some s') ↔ left w = true := by
  have ha : Fl.after (md []) (fn []) (0, 0) (stOf w) = Fl.retS (md []) (fn []) (stOf w) := rfl
  have hcl : ∀ i, i < 6 → Fl.canLose (md []) (fn []) (stOf w) i = (!(w.full.getD i false) || mayDrop (place i)) := fun i hi => by
    unfold Fl.canLose
    rw [place_eq i hi, may_drop _ (place_rng i)]
    unfold stOf
    simp only
    rw [full_at h.len hi]
  rw [ha]
  unfold Fl.retS left
  have hpl : (Fl.places (fn [])).length = 6 := rfl
  rw [hpl, Bool.and_eq_true, List.all_eq_true, decide_eq_true_eq]
  constructor
  · rintro ⟨s', hs⟩
    split at hs
    · rename_i hc
      exact ⟨fun i hi => by rw [← hcl i (List.mem_range.1 hi)]; exact hc.2 i (List.mem_range.1 hi), hc.1⟩
    · cases hs
  · rintro ⟨h1, h2⟩
    rw [if_pos ⟨h2, fun i hi => by rw [hcl i hi]; exact h1 i (List.mem_range.2 hi)⟩]
    exact ⟨_, rfl⟩

/-- WHAT STRAIGHT SAYS, plainly. -/
theorem line_sound (tape : List Int) (cl : Bool) : Fl.Sound (md (codeOf (line tape cl))) (fn (codeOf (line tape cl))) ↔ ((line tape cl).well = true ∧ left (line tape cl) = true) := by
  obtain ⟨h, _⟩ := line_ok tape cl
  unfold codeOf
  rw [sound_iff _ h.fit, h.run]
  cases hw : (line tape cl).well with
  | true =>
    rw [if_pos rfl]
    constructor
    · rintro ⟨s, s', h1, h2⟩
      cases h1
      exact ⟨rfl, (left_iff h).1 ⟨s', h2⟩⟩
    · rintro ⟨_, h2⟩
      obtain ⟨s', hs⟩ := (left_iff h).2 h2
      exact ⟨_, s', rfl, hs⟩
  | false =>
    rw [if_neg (by simp)]
    constructor
    · rintro ⟨s, s', h1, _⟩
      cases h1
    · rintro ⟨h1, _⟩
      cases h1
end Ln
end Go.Proofs.Ytjamgmbdilkbcaa

/- The walks of wire's reader: number. -/
namespace Go.Proofs.Ytjamgmbdilkbcaa
open Go.RowKit

/-- the reader's block. -/
def Rd (w : World) (p : Nat) (b : ByteArray) (s : Pu.St) : Prop :=
  w.heap[p]? = some (.cells #[.string b, .int .i64 (s.1 : Int), .bool s.2] 142 (0, 0))

theorem Rd.c0 {w : World} {p : Nat} {b : ByteArray} {s : Pu.St} (h : Rd w p b s) : w.cell? ⟨p, 0, none⟩ = some (.string b) := by
  unfold Rd at h; simp [World.cell?, h]
theorem Rd.c1 {w : World} {p : Nat} {b : ByteArray} {s : Pu.St} (h : Rd w p b s) : w.cell? ⟨p, 1, none⟩ = some (.int .i64 (s.1 : Int)) := by
  unfold Rd at h; simp [World.cell?, h]
theorem Rd.c2 {w : World} {p : Nat} {b : ByteArray} {s : Pu.St} (h : Rd w p b s) : w.cell? ⟨p, 2, none⟩ = some (.bool s.2) := by
  unfold Rd at h; simp [World.cell?, h]
theorem Rd.fz {w : World} {p : Nat} {b : ByteArray} {s : Pu.St} (h : Rd w p b s) (o : Nat) : w.frozen? ⟨p, o, none⟩ = false := by
  unfold Rd at h; simp [World.frozen?, h]

set_option maxHeartbeats 400000 in
theorem number_bad (p : Nat) (b : ByteArray) (k : Nat) (lo hi : Int) (w : World) (h : Rd w p b (k, true)) :
    Calls Try.prog 97 #[.pointer (some ⟨p, 0, none⟩), .int .i64 lo, .int .i64 hi] w fun e w' => e = .returned (.int .i64 0) ∧ w' = w := by
  have h2 := h.c2
  go_enter Try.func97, Try.ntmps97
  go_wp2
  go_ret
  exact ⟨rfl, rfl⟩

set_option maxHeartbeats 400000 in
theorem number_end (p : Nat) (b : ByteArray) (k : Nat) (lo hi : Int) (w : World) (h : Rd w p b (k, false)) (hk : b.size ≤ k) :
    Calls Try.prog 97 #[.pointer (some ⟨p, 0, none⟩), .int .i64 lo, .int .i64 hi] w fun e w' => e = .returned (.int .i64 0) ∧ ∃ n, w' = (w.drewN n).setCell ⟨p, 2, none⟩ (.bool true) := by
  have h2 := h.c2
  have h0 := h.c0
  have h1 := h.c1
  have h3 := h.fz 2
  clear h
  go_enter Try.func97, Try.ntmps97
  go_wp2
  go_quiet (fail)
  go_wp2
  go_ret
  exact ⟨rfl, _, rfl⟩

theorem wrap64_u8 (c : UInt8) : wrap64 (c.toNat : Int) = (c.toNat : Int) := by
  have := UInt8.toNat_lt c
  unfold wrap64; omega

set_option maxHeartbeats 400000 in
theorem number_low (p : Nat) (b : ByteArray) (k : Nat) (lo hi : Int) (w : World) (h : Rd w p b (k, false)) (hk : k < b.size) (hlo : ((b[k]'hk).toNat : Int) < lo) :
    Calls Try.prog 97 #[.pointer (some ⟨p, 0, none⟩), .int .i64 lo, .int .i64 hi] w fun e w' => e = .returned (.int .i64 0) ∧ ∃ n, w' = (w.drewN n).setCell ⟨p, 2, none⟩ (.bool true) := by
  have h2 := h.c2
  have h0 := h.c0
  have h1 := h.c1
  have h3 := h.fz 2
  have hw : wrap64 ((b[k]'hk).toNat : Int) = ((b[k]'hk).toNat : Int) := wrap64_u8 _
  clear h
  go_enter Try.func97, Try.ntmps97
  go_wp2
  go_quiet (fail)
  go_wp2
  go_quiet (fail)
  go_wp2
  go_ret
  exact ⟨rfl, _, rfl⟩

set_option maxHeartbeats 400000 in
theorem number_high (p : Nat) (b : ByteArray) (k : Nat) (lo hi : Int) (w : World) (h : Rd w p b (k, false)) (hk : k < b.size) (hlo : ¬ ((b[k]'hk).toNat : Int) < lo) (hhi : hi < ((b[k]'hk).toNat : Int)) :
    Calls Try.prog 97 #[.pointer (some ⟨p, 0, none⟩), .int .i64 lo, .int .i64 hi] w fun e w' => e = .returned (.int .i64 0) ∧ ∃ n, w' = (w.drewN n).setCell ⟨p, 2, none⟩ (.bool true) := by
  have h2 := h.c2
  have h0 := h.c0
  have h1 := h.c1
  have h3 := h.fz 2
  have hw : wrap64 ((b[k]'hk).toNat : Int) = ((b[k]'hk).toNat : Int) := wrap64_u8 _
  clear h
  go_enter Try.func97, Try.ntmps97
  go_wp2
  go_quiet (fail)
  go_wp2
  go_quiet (fail)
  go_wp2
  go_ret
  exact ⟨rfl, _, rfl⟩

set_option maxHeartbeats 400000 in
theorem number_good (p : Nat) (b : ByteArray) (k : Nat) (lo hi : Int) (w : World) (h : Rd w p b (k, false)) (hk : k < b.size) (hb : b.size ≤ maxLen) (hlo : ¬ ((b[k]'hk).toNat : Int) < lo) (hhi : ¬ hi < ((b[k]'hk).toNat : Int)) :
    Calls Try.prog 97 #[.pointer (some ⟨p, 0, none⟩), .int .i64 lo, .int .i64 hi] w fun e w' => e = .returned (.int .i64 ((b[k]'hk).toNat : Int)) ∧ ∃ n, w' = (w.drewN n).setCell ⟨p, 1, none⟩ (.int .i64 ((k : Int) + 1)) := by
  have h2 := h.c2
  have h0 := h.c0
  have h1 := h.c1
  have h3 := h.fz 1
  unfold maxLen at hb
  have hw : wrap64 ((b[k]'hk).toNat : Int) = ((b[k]'hk).toNat : Int) := wrap64_u8 _
  clear h
  go_enter Try.func97, Try.ntmps97
  go_wp2
  go_quiet (fail)
  go_wp2
  go_quiet (fail)
  go_wp2
  go_ret
  exact ⟨rfl, _, rfl⟩

theorem getD_byte (b : ByteArray) (k : Nat) (hk : k < b.size) : b.data.toList.getD k 0 = b[k]'hk := by
  have h' : k < b.data.toList.length := by simpa using hk
  rw [List.getD_eq_getElem?_getD, List.getElem?_eq_getElem h']
  rfl

theorem grown_setCell (w : World) (n p o : Nat) (v : Value) : w.grownBy ((w.drewN n).setCell ⟨p, o, none⟩ v) (some p) := by
  refine ⟨rfl, rfl, rfl, by simp [World.setCell], fun k _ hk => ?_⟩
  rw [Below.heap_setCell _ _ _ _ (by intro e; exact hk (by simp [e]))]
  simp

theorem grown_refl (w : World) (r : Option Nat) : w.grownBy w r := ⟨rfl, rfl, rfl, Nat.le_refl _, fun _ _ _ => rfl⟩
theorem grown_trans {a b c : World} {r : Option Nat} (h : a.grownBy b r) (k : b.grownBy c r) : a.grownBy c r :=
  ⟨k.os.trans h.os, k.tape.trans h.tape, k.output.trans h.output, Nat.le_trans h.size k.size, fun i hi hr => (k.block i (Nat.lt_of_lt_of_le hi h.size) hr).trans (h.block i hi hr)⟩

/-- the reader's number, whatever comes. -/
theorem number_any (p : Nat) (b : ByteArray) (s : Pu.St) (lo hi : Int) (w : World) (h : Rd w p b s) (hs : b.size ≤ maxLen) :
    Calls Try.prog 97 #[.pointer (some ⟨p, 0, none⟩), .int .i64 lo, .int .i64 hi] w fun e w' =>
      e = .returned (.int .i64 (Pu.number b lo hi s).1) ∧ Rd w' p b (Pu.number b lo hi s).2 ∧ w.grownBy w' (some p) ∧ w'.heap.size = w.heap.size := by
  obtain ⟨k, bad⟩ := s
  cases bad with
  | true =>
    refine (number_bad p b k lo hi w h).mono ?_
    rintro e w' ⟨rfl, rfl⟩
    exact ⟨by simp [Pu.number], by simpa [Pu.number] using h, grown_refl _ _, rfl⟩
  | false =>
    by_cases hk : b.size ≤ k
    · refine (number_end p b k lo hi w h hk).mono ?_
      rintro e w' ⟨rfl, n, rfl⟩
      refine ⟨by simp [Pu.number, hk], ?_, grown_setCell _ _ _ _ _, by simp [World.setCell]⟩
      simp only [Pu.number, hk]
      unfold Rd at h ⊢
      simp [World.setCell, Array.getElem?_modify, h]
    · have hk' : k < b.size := by omega
      have hg := getD_byte b k hk'
      by_cases hlo : ((b[k]'hk').toNat : Int) < lo
      · refine (number_low p b k lo hi w h hk' hlo).mono ?_
        rintro e w' ⟨rfl, n, rfl⟩
        have e1 : Pu.number b lo hi (k, false) = (0, (k, true)) := by
          simp only [Pu.number, hg]; rw [if_neg (by simp), if_neg (by simpa using hk), if_pos (Or.inl hlo)]
        refine ⟨by rw [e1], ?_, grown_setCell _ _ _ _ _, by simp [World.setCell]⟩
        rw [e1]
        unfold Rd at h ⊢
        simp [World.setCell, Array.getElem?_modify, h]
      · by_cases hhi : hi < ((b[k]'hk').toNat : Int)
        · refine (number_high p b k lo hi w h hk' hlo hhi).mono ?_
          rintro e w' ⟨rfl, n, rfl⟩
          have e1 : Pu.number b lo hi (k, false) = (0, (k, true)) := by
            simp only [Pu.number, hg]; rw [if_neg (by simp), if_neg (by simpa using hk), if_pos (Or.inr hhi)]
          refine ⟨by rw [e1], ?_, grown_setCell _ _ _ _ _, by simp [World.setCell]⟩
          rw [e1]
          unfold Rd at h ⊢
          simp [World.setCell, Array.getElem?_modify, h]
        · refine (number_good p b k lo hi w h hk' hs hlo hhi).mono ?_
          rintro e w' ⟨rfl, n, rfl⟩
          have e1 : Pu.number b lo hi (k, false) = (((b[k]'hk').toNat : Int), (k + 1, false)) := by
            simp only [Pu.number, hg]; rw [if_neg (by simp), if_neg (by simpa using hk), if_neg (by omega)]
          refine ⟨by rw [e1], ?_, grown_setCell _ _ _ _ _, by simp [World.setCell]⟩
          rw [e1]
          unfold Rd at h ⊢
          simp [World.setCell, Array.getElem?_modify, h]

end Go.Proofs.Ytjamgmbdilkbcaa

/- The walks of wire's reader: list. -/
namespace Go.Proofs.Ytjamgmbdilkbcaa
open Go.RowKit

theorem Try.info3 : (Try.prog.info? 3).map (fun i => (i.zero, i.size, i.bytes)) = some (some (.int .i64 0), 1, 8) := by kernel_rfl

theorem Rd.lt {w : World} {p : Nat} {b : ByteArray} {s : Pu.St} (h : Rd w p b s) : p < w.heap.size := (Array.getElem?_eq_some_iff.1 h).1

theorem Rd.kept {w w' : World} {p : Nat} {b : ByteArray} {s : Pu.St} {r : Option Nat} (h : Rd w p b s) (hg : w.grownBy w' r) (hr : some p ≠ r) : Rd w' p b s :=
  (hg.block p h.lt hr).trans h

/-- what is owned stays so while the block p, older than it, is written. -/
theorem owns_grown {w w' : World} {B e size n p : Nat} {v : Value} {xs : List Value} (h : w.ownsRow B e size v n xs) (hg : w.grownBy w' (some p)) (hp : p < B) : w'.ownsRow B e size v n xs := by
  refine h.kept hg ?_
  cases hv : v.ownBlock with
  | none => exact .inl rfl
  | some k => exact .inr (by have := (h.lt k hv).1; intro e; simp at e; omega)

/-- a new block, and an append to what the call owns, keep all that is old but for p. -/
theorem grown_append {w wr w1 w2 : World} {B e size n p : Nat} {v : Value} {xs : List Value} (hB : B = w.heap.size) (h : w.grownBy wr (some p)) (ho : w1.ownsRow B e size v n xs) (h1 : wr.grownBy w1 (some p)) (h2 : w1.grownBy w2 v.ownBlock) : w.grownBy w2 (some p) := by
  have h3 := grown_trans h h1
  refine ⟨h2.os.trans h3.os, h2.tape.trans h3.tape, h2.output.trans h3.output, Nat.le_trans h3.size h2.size, fun k hk hr => ?_⟩
  rw [h2.block k (Nat.lt_of_lt_of_le hk h3.size) (fun e => by have := (ho.lt k e.symm).1; omega)]
  exact h3.block k hk hr

set_option maxHeartbeats 400000 in
theorem list_any (p : Nat) (b : ByteArray) (s : Pu.St) (most hi : Int) (w : World) (h : Rd w p b s) (hs : b.size ≤ maxLen) :
    Calls Try.prog 98 #[.pointer (some ⟨p, 0, none⟩), .int .i64 most, .int .i64 hi] w fun e w' =>
      ∃ v, e = .returned v ∧ w'.ownsRow w.heap.size 3 1 v (Pu.list b most hi s).1.length ((Pu.list b most hi s).1.map (Value.int .i64)) ∧
        Rd w' p b (Pu.list b most hi s).2 ∧ w.grownBy w' (some p) := by
  obtain ⟨i0, hi0, hz0, hz1, hz2⟩ := info_parts Try.info3
  have hp := h.lt
  go_enter Try.func98, Try.ntmps98
  go_wp2_with fail
  have h0 : Rd (w.alloc (.cells #[] 3)) p b s := h.kept (World.grownBy_alloc w _ none) (by simp)
  refine (number_any p b s 0 most _ h0 hs).mono ?_
  rintro e w1 ⟨rfl, h1, hg1, hsz1⟩
  have hown1 := owns_grown (World.ownsRow_made (base := w.heap.size) (e := 3) (size := 1) w #[] 0 (Nat.le_refl _) (by decide) (by simp)) hg1 hp
  have hg1' := grown_trans (World.grownBy_alloc w (.cells #[] 3) (some p)) hg1
  have HL : Hid (Pu.list b most hi s = Pu.nums b hi (Pu.number b 0 most s).2 (Pu.number b 0 most s).1.toNat) := rfl
  have hr := Pu.number_rng b 0 most s
  clear hg1 h0 h hsz1
  generalize Pu.number b 0 most s = q at *
  obtain ⟨c, s1⟩ := q
  simp only at *
  obtain ⟨n, rfl⟩ := Int.eq_ofNat_of_zero_le hr.1
  have hn : n ≤ 255 := by omega
  clear hr
  go_wp2
  go_loopw [7, 9] (fun v i wr => ∃ k : Nat, k ≤ n ∧ i = .int .i64 k ∧ wr.ownsRow w.heap.size 3 1 v k ((Pu.nums b hi s1 k).1.map (Value.int .i64)) ∧ Rd wr p b (Pu.nums b hi s1 k).2 ∧ w.grownBy wr (some p)) (fun _ i _ => n - (intOf i).toNat)
  case atStart => exact ⟨0, Nat.zero_le _, rfl, hown1, h1, hg1'⟩
  case round =>
    obtain ⟨k, hk, rfl, hown, hrd, hgr⟩ := hrel
    clear hown1 h1 hg1'
    by_cases hlt : k < n
    · go_wp2_with fail
      refine (number_any p b _ 0 hi wr hrd hs).mono ?_
      rintro e w2 ⟨rfl, hrd2, hg2, hsz2⟩
      have hown2 := owns_grown hown hg2 hp
      have HS : Hid (Pu.nums b hi s1 (k + 1) = ((Pu.nums b hi s1 k).1 ++ [(Pu.number b 0 hi (Pu.nums b hi s1 k).2).1], (Pu.number b 0 hi (Pu.nums b hi s1 k).2).2)) := rfl
      clear hown hrd hsz2
      generalize Pu.number b 0 hi (Pu.nums b hi s1 k).2 = q at *
      obtain ⟨c, s2⟩ := q
      simp only at *
      go_wp2_with (at_builtin; refine wpList_append_own _ rfl _ _ 30 rfl w.heap.size 3 i0 (.int .i64 0) 1 8 Try.underlying30 hi0 hz0 hz1 hz2 rfl (by decide) _ _ _ rfl (hown2.alloc _) ⟨w2.heap.size, 0, none⟩ 1 1 [.int .i64 c] rfl rfl (cell_one_new _ _ _) ?c2 ?c3 ?c4 ?c5 ?_)
      case c2 => intro u hu; simp at hu; subst hu; rfl
      case c3 => unfold maxLen; omega
      case c4 => omega
      case c5 => have := hgr.size; have := hg2.size; simp; omega
      intro v' w3 hown' hgrow _
      have hgr' := grown_append rfl (grown_trans hgr hg2) (hown2.alloc _) (World.grownBy_alloc w2 _ (some p)) hgrow
      have hrd' : Rd w3 p b s2 := (hrd2.kept (World.grownBy_alloc w2 _ none) (by simp)).kept hgrow (fun e => by have := (hown2.lt p e.symm).1; omega)
      clear hown2 hgrow hrd2 hg2 hgr
      go_wp2
      go_roundw
      case rel => exact ⟨k + 1, hlt, by go_num, by rw [HS.out]; simpa using hown', by rw [HS.out]; exact hrd', hgr'⟩
      case measure => simp [intOf]; omega
    · go_wp2_with fail
      have hkn : k = n := by omega
      subst hkn
      go_ret
      refine ⟨_, rfl, ?_, ?_, hgr⟩
      · rw [HL.out, Int.toNat_natCast, Pu.nums_len]; exact hown
      · rw [HL.out, Int.toNat_natCast]; exact hrd
end Go.Proofs.Ytjamgmbdilkbcaa

/- The walks of wire's reader: argRange. -/
namespace Go.Proofs.Ytjamgmbdilkbcaa
open Go.RowKit

set_option maxHeartbeats 4000000 in
theorem argRange_any (a b c d op : Int) (w : World) (ha : 0 ≤ a ∧ a ≤ 1000) (hb : 0 ≤ b ∧ b ≤ 1000) (hc : 0 ≤ c ∧ c ≤ 1000) (hd : 0 ≤ d ∧ d ≤ 1000) (h0 : 0 ≤ op) (h1 : op ≤ 18) :
    Calls Try.prog 124 #[.agg #[.int .i64 a, .int .i64 b, .int .i64 c, .int .i64 d], .int .i64 op] w fun e w' =>
      e = .returned (.tuple #[.int .i64 (Pu.argLo op), .int .i64 (Pu.argHi a b c d op)]) ∧ w.grownBy w' none := by
  obtain ⟨ha0, ha1⟩ := ha
  obtain ⟨hb0, hb1⟩ := hb
  obtain ⟨hc0, hc1⟩ := hc
  obtain ⟨hd0, hd1⟩ := hd
  have hop : op = 0 ∨ op = 1 ∨ op = 2 ∨ op = 3 ∨ op = 4 ∨ op = 5 ∨ op = 6 ∨ op = 7 ∨ op = 8 ∨ op = 9 ∨ op = 10 ∨ op = 11 ∨ op = 12 ∨ op = 13 ∨ op = 14 ∨ op = 15 ∨ op = 16 ∨ op = 17 ∨ op = 18 := by omega
  rcases hop with rfl | rfl | rfl | rfl | rfl | rfl | rfl | rfl | rfl | rfl | rfl | rfl | rfl | rfl | rfl | rfl | rfl | rfl | rfl
  all_goals clear h0 h1
  all_goals (go_enter Try.func124, Try.ntmps124)
  all_goals go_wp2
  all_goals (try (go_quiet (fail); go_wp2))
  all_goals go_ret2
  all_goals (exact ⟨rfl, ⟨rfl, rfl, rfl, by simp, fun k hk _ => Below.heap_alloc w _ k hk⟩⟩)
end Go.Proofs.Ytjamgmbdilkbcaa
