/- The walks of wire's reader: number. -/
import Derived.Test.YtjamgmbdilkbcaaRows
import Derived.WalkKit
import Derived.WalkSpells
import Derived.WalkLawsBesides
import Derived.BigQuiet
import Derived.Deep.QuietTactic
import Derived.Test.YtjamgmbdilkbcaaPure
namespace Go.Proofs.Ytjamgmbdilkbcaa
open Go.RowKit

/-- the reader's block. -/
def Rd (w : World) (p : Nat) (b : ByteArray) (s : Pu.St) : Prop :=
  w.heap[p]? = some (.cells #[.string b, .int .i64 (s.1 : Int), .bool s.2] 142 (0, 0))

theorem Rd.c0 {w : World} {p : Nat} {b : ByteArray} {s : Pu.St} (h : Rd w p b s) : w.cell? ⟨p, 0, none⟩ = some (.string b) := by
  unfold Rd at h; simp [World.cell?, h]
theorem Rd.c1 {w : World} {p : Nat} {b : ByteArray} {s : Pu.St} (h : Rd w p b s) : w.cell? ⟨p, 1, none⟩ = some (.int .i64 (s.1 : Int)) := by
  unfold Rd at h; simp [World.cell?, h]
theorem Rd.c2 {w : World} {p : Nat} {b : ByteArray} {s : Pu.St} (h : Rd w p b s) : w.cell? ⟨p, 2, none⟩ = some (.bool s.2) := by
  unfold Rd at h; simp [World.cell?, h]
theorem Rd.fz {w : World} {p : Nat} {b : ByteArray} {s : Pu.St} (h : Rd w p b s) (o : Nat) : w.frozen? ⟨p, o, none⟩ = false := by
  unfold Rd at h; simp [World.frozen?, h]

set_option maxHeartbeats 400000 in
theorem number_bad (p : Nat) (b : ByteArray) (k : Nat) (lo hi : Int) (w : World) (h : Rd w p b (k, true)) :
    Calls Try.prog 97 #[.pointer (some ⟨p, 0, none⟩), .int .i64 lo, .int .i64 hi] w fun e w' => e = .returned (.int .i64 0) ∧ w' = w := by
  have h2 := h.c2
  go_enter Try.func97, Try.ntmps97
  go_wp2
  go_ret
  exact ⟨rfl, rfl⟩

set_option maxHeartbeats 400000 in
theorem number_end (p : Nat) (b : ByteArray) (k : Nat) (lo hi : Int) (w : World) (h : Rd w p b (k, false)) (hk : b.size ≤ k) :
    Calls Try.prog 97 #[.pointer (some ⟨p, 0, none⟩), .int .i64 lo, .int .i64 hi] w fun e w' => e = .returned (.int .i64 0) ∧ ∃ n, w' = (w.drewN n).setCell ⟨p, 2, none⟩ (.bool true) := by
  have h2 := h.c2
  have h0 := h.c0
  have h1 := h.c1
  have h3 := h.fz 2
  clear h
  go_enter Try.func97, Try.ntmps97
  go_wp2
  go_quiet (fail)
  go_wp2
  go_ret
  exact ⟨rfl, _, rfl⟩

theorem wrap64_u8 (c : UInt8) : wrap64 (c.toNat : Int) = (c.toNat : Int) := by
  have := UInt8.toNat_lt c
  unfold wrap64; omega

set_option maxHeartbeats 400000 in
theorem number_low (p : Nat) (b : ByteArray) (k : Nat) (lo hi : Int) (w : World) (h : Rd w p b (k, false)) (hk : k < b.size) (hlo : ((b[k]'hk).toNat : Int) < lo) :
    Calls Try.prog 97 #[.pointer (some ⟨p, 0, none⟩), .int .i64 lo, .int .i64 hi] w fun e w' => e = .returned (.int .i64 0) ∧ ∃ n, w' = (w.drewN n).setCell ⟨p, 2, none⟩ (.bool true) := by
  have h2 := h.c2
  have h0 := h.c0
  have h1 := h.c1
  have h3 := h.fz 2
  have hw : wrap64 ((b[k]'hk).toNat : Int) = ((b[k]'hk).toNat : Int) := wrap64_u8 _
  clear h
  go_enter Try.func97, Try.ntmps97
  go_wp2
  go_quiet (fail)
  go_wp2
  go_quiet (fail)
  go_wp2
  go_ret
  exact ⟨rfl, _, rfl⟩

set_option maxHeartbeats 400000 in
theorem number_high (p : Nat) (b : ByteArray) (k : Nat) (lo hi : Int) (w : World) (h : Rd w p b (k, false)) (hk : k < b.size) (hlo : ¬ ((b[k]'hk).toNat : Int) < lo) (hhi : hi < ((b[k]'hk).toNat : Int)) :
    Calls Try.prog 97 #[.pointer (some ⟨p, 0, none⟩), .int .i64 lo, .int .i64 hi] w fun e w' => e = .returned (.int .i64 0) ∧ ∃ n, w' = (w.drewN n).setCell ⟨p, 2, none⟩ (.bool true) := by
  have h2 := h.c2
  have h0 := h.c0
  have h1 := h.c1
  have h3 := h.fz 2
  have hw : wrap64 ((b[k]'hk).toNat : Int) = ((b[k]'hk).toNat : Int) := wrap64_u8 _
  clear h
  go_enter Try.func97, Try.ntmps97
  go_wp2
  go_quiet (fail)
  go_wp2
  go_quiet (fail)
  go_wp2
  go_ret
  exact ⟨rfl, _, rfl⟩

set_option maxHeartbeats 400000 in
theorem number_good (p : Nat) (b : ByteArray) (k : Nat) (lo hi : Int) (w : World) (h : Rd w p b (k, false)) (hk : k < b.size) (hb : b.size ≤ maxLen) (hlo : ¬ ((b[k]'hk).toNat : Int) < lo) (hhi : ¬ hi < ((b[k]'hk).toNat : Int)) :
    Calls Try.prog 97 #[.pointer (some ⟨p, 0, none⟩), .int .i64 lo, .int .i64 hi] w fun e w' => e = .returned (.int .i64 ((b[k]'hk).toNat : Int)) ∧ ∃ n, w' = (w.drewN n).setCell ⟨p, 1, none⟩ (.int .i64 ((k : Int) + 1)) := by
  have h2 := h.c2
  have h0 := h.c0
  have h1 := h.c1
  have h3 := h.fz 1
  unfold maxLen at hb
  have hw : wrap64 ((b[k]'hk).toNat : Int) = ((b[k]'hk).toNat : Int) := wrap64_u8 _
  clear h
  go_enter Try.func97, Try.ntmps97
  go_wp2
  go_quiet (fail)
  go_wp2
  go_quiet (fail)
  go_wp2
  go_ret
  exact ⟨rfl, _, rfl⟩

theorem getD_byte (b : ByteArray) (k : Nat) (hk : k < b.size) : b.data.toList.getD k 0 = b[k]'hk := by
  have h' : k < b.data.toList.length := by simpa using hk
  rw [List.getD_eq_getElem?_getD, List.getElem?_eq_getElem h']
  rfl

theorem grown_setCell (w : World) (n p o : Nat) (v : Value) : w.grownBy ((w.drewN n).setCell ⟨p, o, none⟩ v) (some p) := by
  refine ⟨rfl, rfl, rfl, by simp [World.setCell], fun k _ hk => ?_⟩
  rw [Below.heap_setCell _ _ _ _ (by intro e; exact hk (by simp [e]))]
  simp

theorem grown_refl (w : World) (r : Option Nat) : w.grownBy w r := ⟨rfl, rfl, rfl, Nat.le_refl _, fun _ _ _ => rfl⟩
theorem grown_trans {a b c : World} {r : Option Nat} (h : a.grownBy b r) (k : b.grownBy c r) : a.grownBy c r :=
  ⟨k.os.trans h.os, k.tape.trans h.tape, k.output.trans h.output, Nat.le_trans h.size k.size, fun i hi hr => (k.block i (Nat.lt_of_lt_of_le hi h.size) hr).trans (h.block i hi hr)⟩

/-- the reader's number, whatever comes. -/
theorem number_any (p : Nat) (b : ByteArray) (s : Pu.St) (lo hi : Int) (w : World) (h : Rd w p b s) (hs : b.size ≤ maxLen) :
    Calls Try.prog 97 #[.pointer (some ⟨p, 0, none⟩), .int .i64 lo, .int .i64 hi] w fun e w' =>
      e = .returned (.int .i64 (Pu.number b lo hi s).1) ∧ Rd w' p b (Pu.number b lo hi s).2 ∧ w.grownBy w' (some p) ∧ w'.heap.size = w.heap.size := by
  obtain ⟨k, bad⟩ := s
  cases bad with
  | true =>
    refine (number_bad p b k lo hi w h).mono ?_
    rintro e w' ⟨rfl, rfl⟩
    exact ⟨by simp [Pu.number], by simpa [Pu.number] using h, grown_refl _ _, rfl⟩
  | false =>
    by_cases hk : b.size ≤ k
    · refine (number_end p b k lo hi w h hk).mono ?_
      rintro e w' ⟨rfl, n, rfl⟩
      refine ⟨by simp [Pu.number, hk], ?_, grown_setCell _ _ _ _ _, by simp [World.setCell]⟩
      simp only [Pu.number, hk]
      unfold Rd at h ⊢
      simp [World.setCell, Array.getElem?_modify, h]
    · have hk' : k < b.size := by omega
      have hg := getD_byte b k hk'
      by_cases hlo : ((b[k]'hk').toNat : Int) < lo
      · refine (number_low p b k lo hi w h hk' hlo).mono ?_
        rintro e w' ⟨rfl, n, rfl⟩
        have e1 : Pu.number b lo hi (k, false) = (0, (k, true)) := by
          simp only [Pu.number, hg]; rw [if_neg (by simp), if_neg (by simpa using hk), if_pos (Or.inl hlo)]
        refine ⟨by rw [e1], ?_, grown_setCell _ _ _ _ _, by simp [World.setCell]⟩
        rw [e1]
        unfold Rd at h ⊢
        simp [World.setCell, Array.getElem?_modify, h]
      · by_cases hhi : hi < ((b[k]'hk').toNat : Int)
        · refine (number_high p b k lo hi w h hk' hlo hhi).mono ?_
          rintro e w' ⟨rfl, n, rfl⟩
          have e1 : Pu.number b lo hi (k, false) = (0, (k, true)) := by
            simp only [Pu.number, hg]; rw [if_neg (by simp), if_neg (by simpa using hk), if_pos (Or.inr hhi)]
          refine ⟨by rw [e1], ?_, grown_setCell _ _ _ _ _, by simp [World.setCell]⟩
          rw [e1]
          unfold Rd at h ⊢
          simp [World.setCell, Array.getElem?_modify, h]
        · refine (number_good p b k lo hi w h hk' hs hlo hhi).mono ?_
          rintro e w' ⟨rfl, n, rfl⟩
          have e1 : Pu.number b lo hi (k, false) = (((b[k]'hk').toNat : Int), (k + 1, false)) := by
            simp only [Pu.number, hg]; rw [if_neg (by simp), if_neg (by simpa using hk), if_neg (by omega)]
          refine ⟨by rw [e1], ?_, grown_setCell _ _ _ _ _, by simp [World.setCell]⟩
          rw [e1]
          unfold Rd at h ⊢
          simp [World.setCell, Array.getElem?_modify, h]

end Go.Proofs.Ytjamgmbdilkbcaa
