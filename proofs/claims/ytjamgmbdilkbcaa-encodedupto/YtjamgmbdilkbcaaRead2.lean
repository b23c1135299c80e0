/- The walks of wire's reader: list. -/
import Derived.Test.YtjamgmbdilkbcaaRead1
namespace Go.Proofs.Ytjamgmbdilkbcaa
open Go.RowKit

theorem Try.info3 : (Try.prog.info? 3).map (fun i => (i.zero, i.size, i.bytes)) = some (some (.int .i64 0), 1, 8) := by kernel_rfl

theorem Rd.lt {w : World} {p : Nat} {b : ByteArray} {s : Pu.St} (h : Rd w p b s) : p < w.heap.size := (Array.getElem?_eq_some_iff.1 h).1

theorem Rd.kept {w w' : World} {p : Nat} {b : ByteArray} {s : Pu.St} {r : Option Nat} (h : Rd w p b s) (hg : w.grownBy w' r) (hr : some p ≠ r) : Rd w' p b s :=
  (hg.block p h.lt hr).trans h

/-- what is owned stays so while the block p, older than it, is written. -/
theorem owns_grown {w w' : World} {B e size n p : Nat} {v : Value} {xs : List Value} (h : w.ownsRow B e size v n xs) (hg : w.grownBy w' (some p)) (hp : p < B) : w'.ownsRow B e size v n xs := by
  refine h.kept hg ?_
  cases hv : v.ownBlock with
  | none => exact .inl rfl
  | some k => exact .inr (by have := (h.lt k hv).1; intro e; simp at e; omega)

/-- a new block, and an append to what the call owns, keep all that is old but for p. -/
theorem grown_append {w wr w1 w2 : World} {B e size n p : Nat} {v : Value} {xs : List Value} (hB : B = w.heap.size) (h : w.grownBy wr (some p)) (ho : w1.ownsRow B e size v n xs) (h1 : wr.grownBy w1 (some p)) (h2 : w1.grownBy w2 v.ownBlock) : w.grownBy w2 (some p) := by
  have h3 := grown_trans h h1
  refine ⟨h2.os.trans h3.os, h2.tape.trans h3.tape, h2.output.trans h3.output, Nat.le_trans h3.size h2.size, fun k hk hr => ?_⟩
  rw [h2.block k (Nat.lt_of_lt_of_le hk h3.size) (fun e => by have := (ho.lt k e.symm).1; omega)]
  exact h3.block k hk hr

set_option maxHeartbeats 400000 in
theorem list_any (p : Nat) (b : ByteArray) (s : Pu.St) (most hi : Int) (w : World) (h : Rd w p b s) (hs : b.size ≤ maxLen) :
    Calls Try.prog 98 #[.pointer (some ⟨p, 0, none⟩), .int .i64 most, .int .i64 hi] w fun e w' =>
      ∃ v, e = .returned v ∧ w'.ownsRow w.heap.size 3 1 v (Pu.list b most hi s).1.length ((Pu.list b most hi s).1.map (Value.int .i64)) ∧
        Rd w' p b (Pu.list b most hi s).2 ∧ w.grownBy w' (some p) := by
  obtain ⟨i0, hi0, hz0, hz1, hz2⟩ := info_parts Try.info3
  have hp := h.lt
  go_enter Try.func98, Try.ntmps98
  go_wp2_with fail
  have h0 : Rd (w.alloc (.cells #[] 3)) p b s := h.kept (World.grownBy_alloc w _ none) (by simp)
  refine (number_any p b s 0 most _ h0 hs).mono ?_
  rintro e w1 ⟨rfl, h1, hg1, hsz1⟩
  have hown1 := owns_grown (World.ownsRow_made (base := w.heap.size) (e := 3) (size := 1) w #[] 0 (Nat.le_refl _) (by decide) (by simp)) hg1 hp
  have hg1' := grown_trans (World.grownBy_alloc w (.cells #[] 3) (some p)) hg1
  have HL : Hid (Pu.list b most hi s = Pu.nums b hi (Pu.number b 0 most s).2 (Pu.number b 0 most s).1.toNat) := rfl
  have hr := Pu.number_rng b 0 most s
  clear hg1 h0 h hsz1
  generalize Pu.number b 0 most s = q at *
  obtain ⟨c, s1⟩ := q
  simp only at *
  obtain ⟨n, rfl⟩ := Int.eq_ofNat_of_zero_le hr.1
  have hn : n ≤ 255 := by omega
  clear hr
  go_wp2
  go_loopw [7, 9] (fun v i wr => ∃ k : Nat, k ≤ n ∧ i = .int .i64 k ∧ wr.ownsRow w.heap.size 3 1 v k ((Pu.nums b hi s1 k).1.map (Value.int .i64)) ∧ Rd wr p b (Pu.nums b hi s1 k).2 ∧ w.grownBy wr (some p)) (fun _ i _ => n - (intOf i).toNat)
  case atStart => exact ⟨0, Nat.zero_le _, rfl, hown1, h1, hg1'⟩
  case round =>
    obtain ⟨k, hk, rfl, hown, hrd, hgr⟩ := hrel
    clear hown1 h1 hg1'
    by_cases hlt : k < n
    · go_wp2_with fail
      refine (number_any p b _ 0 hi wr hrd hs).mono ?_
      rintro e w2 ⟨rfl, hrd2, hg2, hsz2⟩
      have hown2 := owns_grown hown hg2 hp
      have HS : Hid (Pu.nums b hi s1 (k + 1) = ((Pu.nums b hi s1 k).1 ++ [(Pu.number b 0 hi (Pu.nums b hi s1 k).2).1], (Pu.number b 0 hi (Pu.nums b hi s1 k).2).2)) := rfl
      clear hown hrd hsz2
      generalize Pu.number b 0 hi (Pu.nums b hi s1 k).2 = q at *
      obtain ⟨c, s2⟩ := q
      simp only at *
      go_wp2_with (at_builtin; refine wpList_append_own _ rfl _ _ 30 rfl w.heap.size 3 i0 (.int .i64 0) 1 8 Try.underlying30 hi0 hz0 hz1 hz2 rfl (by decide) _ _ _ rfl (hown2.alloc _) ⟨w2.heap.size, 0, none⟩ 1 1 [.int .i64 c] rfl rfl (cell_one_new _ _ _) ?c2 ?c3 ?c4 ?c5 ?_)
      case c2 => intro u hu; simp at hu; subst hu; rfl
      case c3 => unfold maxLen; omega
      case c4 => omega
      case c5 => have := hgr.size; have := hg2.size; simp; omega
      intro v' w3 hown' hgrow _
      have hgr' := grown_append rfl (grown_trans hgr hg2) (hown2.alloc _) (World.grownBy_alloc w2 _ (some p)) hgrow
      have hrd' : Rd w3 p b s2 := (hrd2.kept (World.grownBy_alloc w2 _ none) (by simp)).kept hgrow (fun e => by have := (hown2.lt p e.symm).1; omega)
      clear hown2 hgrow hrd2 hg2 hgr
      go_wp2
      go_roundw
      case rel => exact ⟨k + 1, hlt, by go_num, by rw [HS.out]; simpa using hown', by rw [HS.out]; exact hrd', hgr'⟩
      case measure => simp [intOf]; omega
    · go_wp2_with fail
      have hkn : k = n := by omega
      subst hkn
      go_ret
      refine ⟨_, rfl, ?_, ?_, hgr⟩
      · rw [HL.out, Int.toNat_natCast, Pu.nums_len]; exact hown
      · rw [HL.out, Int.toNat_natCast]; exact hrd
end Go.Proofs.Ytjamgmbdilkbcaa
