import Derived.Test.YtjamgmbdilkbcaaLotGased38
import Derived.Test.YtjamgmbdilkbcaaLotGased18
import Derived.Test.YtjamgmbdilkbcaaLotGased36
/- The book, and what deals come to. No program here. -/
namespace Go.Proofs.Ytjamgmbdilkbcaa
open Go.RowKit Mc

/-- the book. -/
structure Bk where
  is : Nat → Bool
  n : Nat → Int
namespace Bk
def out (B : Bk) (w : Nat) : Bk := ⟨fun j => if j = w then false else B.is j, B.n⟩
def put (B : Bk) (w : Nat) (v : Int) : Bk := ⟨fun j => if j = w then true else B.is j, fun j => if j = w then v else B.n j⟩
abbrev there (B : Bk) (what who to : Nat) : Prop := to < 8 ∧ B.is to = true ∧ (what = 0 ∨ to ≠ who)
/-- a deal: the script, the error, how many instructions, the book behind it. -/
def does (B : Bk) (what who to n : Nat) : (ByteArray × Int × Int) × Bk :=
  if what = 2 ∧ B.is who = true then ((burnB, 0, 9), B.out who)
  else if what = 2 then ((burnB, 7, 2), B)
  else if what = 1 ∧ B.is who = false then ((giveB (UInt8.ofNat to), 7, 2), B)
  else if what = 1 ∧ 8 ≤ to then ((giveB (UInt8.ofNat to), 4, 8), B)
  else if what = 1 ∧ B.there what who to then ((giveB (UInt8.ofNat to), 8, 8), B)
  else if what = 1 then ((giveB (UInt8.ofNat to), 0, 10), (B.out who).put to (B.n who))
  else if 8 ≤ to then ((mintB (UInt8.ofNat n) (UInt8.ofNat to), 4, 10), B)
  else if B.there what who to then ((mintB (UInt8.ofNat n) (UInt8.ofNat to), 8, 10), B)
  else ((mintB (UInt8.ofNat n) (UInt8.ofNat to), 0, 12), B.put to n)
end Bk

def bookA (B : Bk) (j : Nat) : Bool × Int := if j % 6 = 0 then (if B.is (j / 6) = true then (true, B.n (j / 6)) else (false, 0)) else (false, 0)
/-- the accounts hold what the book says. -/
def HoldsB (A : Nat → Bool × Int) (B : Bk) : Prop := ∀ j, j < 48 → A j = bookA B j
theorem HoldsB.at {A : Nat → Bool × Int} {B : Bk} (h : HoldsB A B) {w : Nat} (hw : w < 8) : A (6 * w) = if B.is w = true then (true, B.n w) else (false, 0) := by
  rw [h _ (by omega)]
  unfold bookA
  rw [if_pos (by omega), show 6 * w / 6 = w from by omega]

theorem look_in (A : Nat → Bool × Int) {w : Nat} (h : w < 8) : lookS A (w : Int) 1 = (A (6 * w), 0) := by
  unfold lookS
  rw [if_pos (by unfold isAcc isKd; simp; omega)]
  unfold at_
  rw [show ((w : Int) * 6 + 1 - 1).toNat = 6 * w from by omega]
theorem look_out (A : Nat → Bool × Int) {w : Nat} (h : 8 ≤ w) : lookS A (w : Int) 1 = ((false, 0), 4) := by
  unfold lookS
  rw [if_neg (by unfold isAcc; simp; omega)]
theorem amount_in (A : Nat → Bool × Int) {w : Nat} (h : w < 8) : amountS A (w : Int) 1 = if (A (6 * w)).1 = true then ((A (6 * w)).2, 0) else (0, 7) := by
  unfold amountS
  rw [look_in A h]
  simp

theorem setAc_j (A : Nat → Bool × Int) (w j : Nat) (v : Bool × Int) : setAc A (w : Int) 1 v j = if j = 6 * w then v else A j := by
  unfold setAc at_
  rw [show ((w : Int) * 6 + 1 - 1).toNat = 6 * w from by omega]
theorem HoldsB.out {A : Nat → Bool × Int} {B : Bk} (h : HoldsB A B) {w : Nat} : HoldsB (setAc A (w : Int) 1 (false, 0)) (B.out w) := fun j hj => by
  rw [setAc_j, h j hj]
  unfold bookA Bk.out
  simp only
  by_cases e : j = 6 * w
  · rw [if_pos e, if_pos (by omega), if_neg (by rw [if_pos (by omega)]; decide)]
  · rw [if_neg e]
    by_cases e6 : j % 6 = 0
    · rw [if_pos e6, if_pos e6, if_neg (show ¬ j / 6 = w by omega)]
    · rw [if_neg e6, if_neg e6]
theorem HoldsB.put {A : Nat → Bool × Int} {B : Bk} (h : HoldsB A B) {w : Nat} (v : Int) : HoldsB (setAc A (w : Int) 1 (true, v)) (B.put w v) := fun j hj => by
  rw [setAc_j, h j hj]
  unfold bookA Bk.put
  simp only
  by_cases e : j = 6 * w
  · have e2 : j / 6 = w := by omega
    rw [if_pos e, if_pos (by omega), if_pos (by rw [if_pos e2]), if_pos e2]
  · rw [if_neg e]
    by_cases e6 : j % 6 = 0
    · rw [if_pos e6, if_pos e6, if_neg (show ¬ j / 6 = w by omega), if_neg (show ¬ j / 6 = w by omega)]
    · rw [if_neg e6, if_neg e6]
theorem HoldsB.congr {A A' : Nat → Bool × Int} {B : Bk} (h : HoldsB A B) (he : ∀ j, j < 48 → A' j = A j) : HoldsB A' B := fun j hj => (he j hj).trans (h j hj)
def Bk.none : Bk := ⟨fun _ => false, fun _ => 0⟩
theorem holds_none : HoldsB (fun _ => (false, 0)) Bk.none := fun j _ => by unfold bookA Bk.none; simp

theorem run_says {A A' : Nat → Bool × Int} {b : ByteArray} {f : Pu.Fn} {who gas e c u : Int} (hr : readScript b 1 4 = (f, 0)) (hs : Fl.Sound bankM f) (hw : 0 ≤ who ∧ who < 8) (hg : 0 ≤ gas ∧ gas ≤ 10000) (h : RunSays bankM A b who gas A' e c u) :
    e = (runV bankM f A who gas).err ∧ c = (runV bankM f A who gas).code ∧ u = (runV bankM f A who gas).used ∧ ∀ j, j < 48 → A' j = if (runV bankM f A who gas).err = 0 then (runV bankM f A who gas).acc j else A j := by
  have hr' : readScript b bankM.kinds.length bankM.funcs.length = (f, 0) := hr
  unfold RunSays at h
  rw [hr'] at h
  rcases h with ⟨h1, _⟩ | ⟨_, h2, _⟩ | ⟨_, _, h3, _⟩ | ⟨_, _, _, h4, h5, h6, h7⟩
  · omega
  · exact absurd rfl h2
  · exact absurd hs h3
  · have v := runV_is bankM f A who gas
    refine ⟨h5.trans v.err, h6.trans v.code, h7.trans v.used, fun j hj => ?_⟩
    rw [h4]
    simp only
    rw [v.err]
    split
    · exact v.acc j hj
    · rfl

theorem says_hold {V : Vm} {A A1 A' : Nat → Bool × Int} {B : Bk} {u e x c y : Int} (hv : Says V A1 u e) (hx : x = V.err) (hc : c = V.code) (hy : y = V.used) (ha : ∀ j, j < 48 → A' j = if V.err = 0 then V.acc j else A j) (hB : HoldsB (if e = 0 then A1 else A) B) : x = e ∧ c = 0 ∧ y = u ∧ HoldsB A' B := by
  obtain ⟨h1, h2, h3, h4⟩ := hv
  refine ⟨hx.trans h3, hc.trans h4, hy.trans h2, hB.congr fun j hj => ?_⟩
  rw [ha j hj, h3, h1]
  split <;> rfl

theorem deal_ok {A A' : Nat → Bool × Int} {B : Bk} {what who to n : Nat} {e c u : Int} (h : HoldsB A B) (h1 : what < 3) (h2 : who < 8) (h3 : to < 10) (h4 : n < 256) (hr : RunSays bankM A (B.does what who to n).1.1 who 100 A' e c u) :
    e = (B.does what who to n).1.2.1 ∧ c = 0 ∧ u = (B.does what who to n).1.2.2 ∧ HoldsB A' (B.does what who to n).2 := by
  have hw : (0 : Int) ≤ who ∧ (who : Int) < 8 := by omega
  have hg : (0 : Int) ≤ 100 ∧ (100 : Int) ≤ 10000 := by omega
  have ut : (UInt8.ofNat to).toNat = to := by rw [UInt8.toNat_ofNat']; omega
  have un : (UInt8.ofNat n).toNat = n := by rw [UInt8.toNat_ofNat']; omega
  have hA := h.at h2
  have am := amount_in A h2
  unfold Bk.does at hr ⊢
  by_cases w2 : what = 2
  · have key : ∀ {A' : Nat → Bool × Int} {e c u : Int}, RunSays bankM A burnB who 100 A' e c u → _ := fun hr => run_says burn_read burn_sound hw hg hr
    by_cases hi : B.is who = true
    · rw [if_pos ⟨w2, hi⟩] at hr ⊢
      obtain ⟨k1, k2, k3, k4⟩ := key hr
      rw [if_pos hi] at hA
      rw [hA] at am
      simp only [if_true] at am
      rcases burn_run A who with ⟨q, _⟩ | ⟨_, q⟩
      · rw [am] at q; exact absurd rfl q
      · exact says_hold q k1 k2 k3 k4 h.out
    · rw [if_neg (by simp [hi]), if_pos w2] at hr ⊢
      obtain ⟨k1, k2, k3, k4⟩ := key hr
      rw [if_neg hi] at hA
      rw [hA] at am
      simp only [Bool.false_eq_true, if_false] at am
      rcases burn_run A who with ⟨_, q⟩ | ⟨q, _⟩
      · rw [am] at q; exact says_hold q k1 k2 k3 k4 h
      · rw [am] at q; exact absurd q (by decide)
  rw [if_neg (by omega), if_neg w2] at hr ⊢
  by_cases w1 : what = 1
  · have key : ∀ {A' : Nat → Bool × Int} {e c u : Int}, RunSays bankM A (giveB (UInt8.ofNat to)) who 100 A' e c u → _ := fun hr => run_says (give_read (UInt8.ofNat to)) (give_sound _) hw hg hr
    rw [ut] at key
    by_cases hi : B.is who = true
    · rw [if_neg (by simp [hi])] at hr ⊢
      rw [if_pos hi] at hA
      rw [hA] at am
      simp only [if_true] at am
      have q : StoreSays (runV bankM (giveF to) A who 100) (setAc A who 1 (false, 0)) (setAc A who 1 (false, 0)) to (B.n who) 7 := by
        rcases give_run A who to with ⟨q, _⟩ | ⟨_, q⟩
        · rw [am] at q; exact absurd rfl q
        · rw [am] at q; exact q
      have ho : HoldsB (setAc A who 1 (false, 0)) (B.out who) := h.out
      by_cases t8 : 8 ≤ to
      · rw [if_pos ⟨w1, t8⟩] at hr ⊢
        obtain ⟨k1, k2, k3, k4⟩ := key hr
        unfold StoreSays at q
        rw [look_out _ t8] at q
        rcases q with ⟨_, q⟩ | ⟨q, _⟩ | ⟨q, _⟩
        · exact says_hold q k1 k2 k3 k4 h
        · exact absurd q (by decide)
        · exact absurd q (by decide)
      · rw [if_neg (by omega)] at hr ⊢
        have hot := ho.at (w := to) (by omega)
        unfold StoreSays at q
        rw [look_in _ (by omega : to < 8), hot] at q
        by_cases th : B.there what who to
        · rw [if_pos ⟨w1, th⟩] at hr ⊢
          obtain ⟨k1, k2, k3, k4⟩ := key hr
          obtain ⟨_, t2, t3⟩ := th
          have e1 : (B.out who).is to = true := by unfold Bk.out; simp only; rw [if_neg (by omega)]; exact t2
          rw [if_pos e1] at q
          rcases q with ⟨q, _⟩ | ⟨_, _, q⟩ | ⟨_, q, _⟩
          · exact absurd rfl q
          · exact says_hold q k1 k2 k3 k4 h
          · exact absurd q (by simp)
        · rw [if_neg (fun x => th x.2), if_pos w1] at hr ⊢
          obtain ⟨k1, k2, k3, k4⟩ := key hr
          have e1 : ¬ (B.out who).is to = true := by
            unfold Bk.out
            simp only
            intro x
            split at x
            · exact absurd x (by decide)
            · rename_i hne
              exact th ⟨by omega, x, .inr hne⟩
          rw [if_neg e1] at q
          rcases q with ⟨q, _⟩ | ⟨_, q, _⟩ | ⟨_, _, q⟩
          · exact absurd rfl q
          · exact absurd q (by decide)
          · exact says_hold q k1 k2 k3 k4 (ho.put _)
    · have hi' : B.is who = false := by simpa using hi
      rw [if_pos ⟨w1, hi'⟩] at hr ⊢
      obtain ⟨k1, k2, k3, k4⟩ := key hr
      rw [if_neg hi] at hA
      rw [hA] at am
      simp only [Bool.false_eq_true, if_false] at am
      rcases give_run A who to with ⟨_, q⟩ | ⟨q, _⟩
      · rw [am] at q; exact says_hold q k1 k2 k3 k4 h
      · rw [am] at q; exact absurd q (by decide)
  · rw [if_neg (fun x => w1 x.1), if_neg (fun x => w1 x.1), if_neg (fun x => w1 x.1), if_neg w1] at hr ⊢
    have key : ∀ {A' : Nat → Bool × Int} {e c u : Int}, RunSays bankM A (mintB (UInt8.ofNat n) (UInt8.ofNat to)) who 100 A' e c u → _ := fun hr => run_says (mint_read (UInt8.ofNat n) (UInt8.ofNat to)) (mint_sound _ _) hw hg hr
    rw [ut, un] at key
    have q := mint_run A who n to
    unfold StoreSays at q
    by_cases t8 : 8 ≤ to
    · rw [if_pos t8] at hr ⊢
      obtain ⟨k1, k2, k3, k4⟩ := key hr
      rw [look_out _ t8] at q
      rcases q with ⟨_, q⟩ | ⟨q, _⟩ | ⟨q, _⟩
      · exact says_hold q k1 k2 k3 k4 h
      · exact absurd q (by decide)
      · exact absurd q (by decide)
    · rw [if_neg t8] at hr ⊢
      rw [look_in _ (by omega : to < 8), h.at (w := to) (by omega)] at q
      by_cases th : B.there what who to
      · rw [if_pos th] at hr ⊢
        obtain ⟨k1, k2, k3, k4⟩ := key hr
        rw [if_pos th.2.1] at q
        rcases q with ⟨q, _⟩ | ⟨_, _, q⟩ | ⟨_, q, _⟩
        · exact absurd rfl q
        · exact says_hold q k1 k2 k3 k4 h
        · exact absurd q (by simp)
      · rw [if_neg th] at hr ⊢
        obtain ⟨k1, k2, k3, k4⟩ := key hr
        have e1 : ¬ B.is to = true := fun x => th ⟨by omega, x, .inl (by omega)⟩
        rw [if_neg e1] at q
        rcases q with ⟨q, _⟩ | ⟨_, q, _⟩ | ⟨_, _, q⟩
        · exact absurd rfl q
        · exact absurd q (by decide)
        · exact says_hold q k1 k2 k3 k4 (h.put _)

/-- an amount that the book says. -/
theorem amount_book {A : Nat → Bool × Int} {B : Bk} (h : HoldsB A B) {w : Nat} (hw : w < 8) : amountS A (w : Int) 1 = if B.is w = true then (B.n w, 0) else (0, 7) := by
  rw [amount_in A hw, h.at hw]
  by_cases hi : B.is w = true
  · rw [if_pos hi, if_pos hi]; rfl
  · rw [if_neg hi, if_neg hi]; rfl
end Go.Proofs.Ytjamgmbdilkbcaa

/- Kept: the scripts, the book in memory. -/
namespace Go.Proofs.Ytjamgmbdilkbcaa
open Go.RowKit

theorem byte_nat {n : Nat} (h : n < 256) : Pu.byte (n : Int) = UInt8.ofNat n := by
  unfold Pu.byte
  rw [show ((n : Int) % 256).toNat = n from by omega]
theorem give_bytes (a : Int) : (⟨#[0, 0, 0, 4, 14, 2, 1]⟩ : ByteArray) ++ one8 a ++ (⟨#[14, 1, 0, 0]⟩ : ByteArray) = giveB (Pu.byte a) := by
  apply ByteArray.ext
  simp [one8, giveB, ByteArray.data_append]
theorem mint_bytes (n a : Int) : (⟨#[0, 0, 0, 5, 1]⟩ : ByteArray) ++ one8 n ++ (⟨#[14, 0, 1]⟩ : ByteArray) ++ one8 a ++ (⟨#[14, 1, 0, 0]⟩ : ByteArray) = mintB (Pu.byte n) (Pu.byte a) := by
  apply ByteArray.ext
  simp [one8, mintB, ByteArray.data_append]

set_option maxRecDepth 100000 in
set_option maxHeartbeats 1000000 in
theorem given_any (a : Int) (w : World) :
    Calls Try.prog 82 #[.int .i64 a] w fun e w' => e = .returned (.string (giveB (Pu.byte a))) ∧ Below w.heap.size w w' := by
  have HG := hid (give_bytes a)
  have s2 : (one8 a).size = 1 := rfl
  have C := hid fun W => kone_any a W
  generalize giveB (Pu.byte a) = G at *
  generalize one8 a = S1 at *
  go_enter Try.func82, Try.ntmps82
  go_wp2_with fail
  refine (C.out _).mono ?_
  rintro e w3 ⟨rfl, hb3⟩
  clear C
  go_wp2
  go_ret
  rw [HG.out]
  exact ⟨rfl, hb3⟩

set_option maxRecDepth 100000 in
set_option maxHeartbeats 1000000 in
theorem minted_any (n a : Int) (w : World) :
    Calls Try.prog 83 #[.int .i64 n, .int .i64 a] w fun e w' => e = .returned (.string (mintB (Pu.byte n) (Pu.byte a))) ∧ Below w.heap.size w w' := by
  have HG := hid (mint_bytes n a)
  have s1 : (one8 n).size = 1 := rfl
  have s2 : (one8 a).size = 1 := rfl
  have C1 := hid fun W => kone_any n W
  have C2 := hid fun W => kone_any a W
  generalize mintB (Pu.byte n) (Pu.byte a) = G at *
  generalize one8 n = S1 at *
  generalize one8 a = S2 at *
  go_enter Try.func83, Try.ntmps83
  go_wp2_with fail
  refine (C1.out _).mono ?_
  rintro e w3 ⟨rfl, hb3⟩
  go_wp2_with fail
  refine (C2.out _).mono ?_
  rintro e w4 ⟨rfl, hb4⟩
  have hb := hb3.trans (hb4.mono hb3.size)
  clear C1 C2 hb3 hb4
  go_wp2
  go_ret
  rw [HG.out]
  exact ⟨rfl, hb⟩

/-- the book in memory. -/
structure BkR (w : World) (q : Nat) (B : Bk) : Prop where
  ex : ∃ C : Array Value, w.heap[q]? = some (.cells C 102 (0, 0)) ∧ C.size = 16 ∧ ∀ i, i < 8 → C[i]? = some (.bool (B.is i)) ∧ C[8 + i]? = some (.int .i64 (B.n i))

section
variable {w w' : World} {q : Nat} {B : Bk}
theorem BkR.lt (h : BkR w q B) : q < w.heap.size := by
  obtain ⟨C, hb, _⟩ := h.ex
  exact (Array.getElem?_eq_some_iff.1 hb).1
theorem BkR.ci (h : BkR w q B) {i : Nat} (hi : i < 8) : w.cell? ⟨q, i, none⟩ = some (.bool (B.is i)) := by
  obtain ⟨C, hb, _, hc⟩ := h.ex
  unfold World.cell?
  simp only [hb]
  simpa using (hc i hi).1
theorem BkR.cn (h : BkR w q B) {i : Nat} (hi : i < 8) : w.cell? ⟨q, 8 + i, none⟩ = some (.int .i64 (B.n i)) := by
  obtain ⟨C, hb, _, hc⟩ := h.ex
  unfold World.cell?
  simp only [hb]
  simpa using (hc i hi).2
theorem BkR.fz (h : BkR w q B) (i : Nat) : w.frozen? ⟨q, i, none⟩ = false := by
  obtain ⟨C, hb, _⟩ := h.ex
  simp [World.frozen?, hb]
theorem BkR.kept (h : BkR w q B) {k : Option Nat} (hg : w.grownBy w' k) (hr : some q ≠ k) : BkR w' q B := by
  obtain ⟨C, hb, h2⟩ := h.ex
  exact ⟨⟨C, (hg.block q h.lt hr).trans hb, h2⟩⟩
theorem BkR.below (h : BkR w q B) {b : Nat} (hb : Below b w w') (hq : q < b) : BkR w' q B := by
  obtain ⟨C, h1, h2⟩ := h.ex
  exact ⟨⟨C, (hb.block q hq).trans h1, h2⟩⟩
theorem BkR.setI (h : BkR w q B) {i : Nat} (hi : i < 8) (b : Bool) : BkR (w.setCell ⟨q, i, none⟩ (.bool b)) q ⟨fun j => if j = i then b else B.is j, B.n⟩ := by
  obtain ⟨C, hb, hs, hc⟩ := h.ex
  refine ⟨⟨C.setIfInBounds i (.bool b), by simp [World.setCell, Array.getElem?_modify, hb], by simp [hs], fun j hj => ⟨?_, ?_⟩⟩⟩
  · by_cases he : j = i
    · subst he
      rw [Array.getElem?_setIfInBounds, if_pos rfl, if_pos (by omega)]
      simp
    · rw [Array.getElem?_setIfInBounds, if_neg (fun e => he e.symm), (hc j hj).1]
      simp [he]
  · rw [Array.getElem?_setIfInBounds, if_neg (by omega), (hc j hj).2]
theorem BkR.setN (h : BkR w q B) {i : Nat} (hi : i < 8) (n : Int) : BkR (w.setCell ⟨q, 8 + i, none⟩ (.int .i64 n)) q ⟨B.is, fun j => if j = i then n else B.n j⟩ := by
  obtain ⟨C, hb, hs, hc⟩ := h.ex
  refine ⟨⟨C.setIfInBounds (8 + i) (.int .i64 n), by simp [World.setCell, Array.getElem?_modify, hb], by simp [hs], fun j hj => ⟨?_, ?_⟩⟩⟩
  · rw [Array.getElem?_setIfInBounds, if_neg (by omega), (hc j hj).1]
  · by_cases he : j = i
    · subst he
      rw [Array.getElem?_setIfInBounds, if_pos rfl, if_pos (by omega)]
      simp
    · rw [Array.getElem?_setIfInBounds, if_neg (by omega), (hc j hj).2]
      simp [he]
end
end Go.Proofs.Ytjamgmbdilkbcaa

/- Amount. -/
namespace Go.Proofs.Ytjamgmbdilkbcaa
open Go.RowKit Mc

section
variable {w : World} {q : Nat} {mk mv : Value} {Hs : Array Value} {t : TypeId} {fr' : Nat × Nat}
theorem led_c0 (h : w.heap[q]? = some (.cells (#[mk, mv] ++ Hs) t fr')) : w.cell? ⟨q, 0, none⟩ = some mk := by
  unfold World.cell?; simp only [h]; simp [Array.getElem?_append]
theorem led_c1 (h : w.heap[q]? = some (.cells (#[mk, mv] ++ Hs) t fr')) : w.cell? ⟨q, 1, none⟩ = some mv := by
  unfold World.cell?; simp only [h]; simp [Array.getElem?_append]
theorem led_row (h : w.heap[q]? = some (.cells (#[mk, mv] ++ Hs) t fr')) (i : Nat) : w.cell? ⟨q, 2 + i, none⟩ = Hs[i]? := by
  have e : (#[mk, mv] ++ Hs)[2 + i]? = Hs[i]? := by
    rw [Array.getElem?_append_right (by simp)]
    simp
  unfold World.cell?
  simp only [h]
  exact e
theorem led_acR (h : w.heap[q]? = some (.cells (#[mk, mv] ++ Hs) t fr')) {A : Nat → Bool × Int} (hA : RowA Hs A) : AcR w q 2 A := fun j hj => by
  rw [led_row h, Nat.add_assoc, led_row h]; exact hA.2 j hj
theorem led_range (h : w.heap[q]? = some (.cells (#[mk, mv] ++ Hs) t fr')) : w.rangeAt q 2 Hs.toList := fun j v hv => by
  rw [led_row h]; simpa using hv
end

/-- what Amount says. -/
def ledAmount (m : Pu.Md) (A : Nat → Bool × Int) (who kind : Int) : Int × Int := if kind < 1 ∨ (m.kinds.length : Int) < kind then (0, 4) else amountS A who kind

set_option maxRecDepth 100000 in
set_option maxHeartbeats 1000000 in
theorem amount_any (q : Nat) (m : Pu.Md) (A : Nat → Bool × Int) (who kind : Int) (w : World) (h : Lg w q m A) :
    Calls Try.prog 22 #[.pointer (some ⟨q, 0, none⟩), .int .i64 who, .int .i64 kind] w fun e w' => e = .returned (.tuple #[.int .i64 (ledAmount m A who kind).1, .int .i64 (ledAmount m A who kind).2]) ∧ Below w.heap.size w w' := by
  obtain ⟨mk, mv, Hs, hb, hA, hm⟩ := h.ex
  obtain ⟨a1, c1, rfl⟩ := hm.k.shape
  have d0 := led_c0 hb
  have C := hid (mamount_any q 2 A who kind w (led_acR hb hA))
  have nk := hm.nk
  clear hm hb hA h
  unfold ledAmount
  by_cases h1 : kind < 1
  · rw [if_pos (.inl h1)]
    go_enter Try.func22, Try.ntmps22
    go_wp2
    go_ret2
    exact ⟨rfl, Below.refl _ _⟩
  · by_cases h2 : (m.kinds.length : Int) < kind
    · rw [if_pos (.inr h2)]
      go_enter Try.func22, Try.ntmps22
      go_wp2
      go_ret2
      exact ⟨rfl, Below.refl _ _⟩
    · rw [if_neg (by omega)]
      generalize amountS A who kind = S at C ⊢
      go_enter Try.func22, Try.ntmps22
      go_wp2_with fail
      refine C.out.mono ?_
      rintro e w1 ⟨rfl, hb1⟩
      clear C
      go_wp2
      go_ret2
      exact ⟨rfl, hb1⟩

theorem RowA.uniq {H : Array Value} {A : Nat → Bool × Int} (h : RowA H A) : H = (rowOf A (List.range 48)).toArray := by
  have k := rowOf_is A
  apply Array.ext_getElem?
  intro i
  by_cases hi : i < 96
  · obtain ⟨h1, h2⟩ := h.2 (i / 2) (by omega)
    obtain ⟨k1, k2⟩ := k.2 (i / 2) (by omega)
    by_cases ho : i % 2 = 0
    · rw [show 2 * (i / 2) = i from by omega] at h1 k1
      rw [h1, k1]
    · rw [show 2 * (i / 2) + 1 = i from by omega] at h2 k2
      rw [h2, k2]
  · rw [Array.getElem?_eq_none (by rw [h.1]; omega), Array.getElem?_eq_none (by rw [k.1]; omega)]

/-- what accounts hold behind a run. -/
def runA (m : Pu.Md) (f : Pu.Fn) (A : Nat → Bool × Int) (who gas : Int) : Nat → Bool × Int := if (runM m f A who gas).err = 0 then (runM m f A who gas).acc else A

theorem mscript_says (m : Pu.Md) (f : Pu.Fn) (a1 : Option Addr) (c1 : Nat) (a2 : Option Addr) (c2 : Nat) (x1 : Option Addr) (y1 : Nat) (x2 : Option Addr) (y2 : Nat) (x3 : Option Addr) (y3 : Nat) (x4 : Option Addr) (y4 : Nat) (Hs : Array Value) (A : Nat → Bool × Int) (hA : RowA Hs A) (who gas : Int) (w : World)
    (hm : MdR w w.heap.size (.slice a1 m.kinds.length c1) (.slice a2 m.funcs.length c2) m) (hpar : ∀ f ∈ m.funcs, f.params.length ≤ 4) (hc : CodeR w w.heap.size (.slice x4 f.code.length y4) f.code) (hcl : f.code.length ≤ maxLen) (hml : ∀ g ∈ m.funcs, g.code.length ≤ maxLen) (hg : 0 ≤ gas ∧ gas ≤ 10000) :
    Calls Try.prog 52 #[.agg #[.slice a1 m.kinds.length c1, .slice a2 m.funcs.length c2], .agg #[.slice x1 f.params.length y1, .slice x2 f.results.length y2, .slice x3 f.locals.length y3, .slice x4 f.code.length y4], .agg Hs, .int .i64 who, .int .i64 gas] w fun e w' =>
      e = .returned (.tuple #[.agg (rowOf (runA m f A who gas) (List.range 48)).toArray, .agg #[.int .i64 (runM m f A who gas).err, .int .i64 (runM m f A who gas).code, .int .i64 (runM m f A who gas).used]]) ∧ Below w.heap.size w w' := by
  refine (mscript_any m f a1 c1 a2 c2 x1 y1 x2 y2 x3 y3 x4 y4 Hs A hA who gas w hm hpar hc hcl hml hg).mono ?_
  rintro e w' ⟨xv, cv, ML, HR, hML, rfl, hR, hb⟩
  have he := runM_of m f A who gas xv cv
  rw [← hML] at he
  have e1 : (runM m f A who gas).err = ML.err := by rw [← he]; rfl
  have e2 : (runM m f A who gas).code = ML.code := by rw [← he]; rfl
  have e3 : (runM m f A who gas).used = ML.used := by rw [← he]; rfl
  have e4 : (runM m f A who gas).acc = ML.acc := by rw [← he]; rfl
  refine ⟨?_, hb⟩
  unfold runA
  rw [e1, e2, e3, e4, ← hR.uniq]
section
variable {w : World} {q : Nat} {t : TypeId} {x0 x1 x2 : Value}
theorem B3.lt (h : B3 w q t x0 x1 x2) : q < w.heap.size := (Array.getElem?_eq_some_iff.1 h).1
theorem B3.fz (h : B3 w q t x0 x1 x2) (o : Nat) : w.frozen? ⟨q, o, none⟩ = false := by unfold B3 at h; simp [World.frozen?, h]
theorem B3.set0 (h : B3 w q t x0 x1 x2) (v : Value) : B3 (w.setCell ⟨q, 0, none⟩ v) q t v x1 x2 := by unfold B3 at h ⊢; simp [World.setCell, Array.getElem?_modify, h]
theorem B3.set1 (h : B3 w q t x0 x1 x2) (v : Value) : B3 (w.setCell ⟨q, 1, none⟩ v) q t x0 v x2 := by unfold B3 at h ⊢; simp [World.setCell, Array.getElem?_modify, h]
theorem B3.set2 (h : B3 w q t x0 x1 x2) (v : Value) : B3 (w.setCell ⟨q, 2, none⟩ v) q t x0 x1 v := by unfold B3 at h ⊢; simp [World.setCell, Array.getElem?_modify, h]
end
/-- a region that ends well, and in which state. -/
def EndP (R : Act → World → Prop) : Exit → Act → World → Prop
  | .normal, a, w => R a w
  | _, _, _ => False
theorem region_end {P : Program} {c : Code} {Q : Exit → Act → World → Prop} {a : Act} {w : World} (R : Act → World → Prop) (h1 : c.wp P (EndP R) a w) (h2 : ∀ a' w', R a' w' → Q .normal a' w') : c.wp P Q a w :=
  Code.wp_mono (fun e a' w' h => by cases e <;> first | exact h2 a' w' h | exact (h : False).elim) h1
end Go.Proofs.Ytjamgmbdilkbcaa
