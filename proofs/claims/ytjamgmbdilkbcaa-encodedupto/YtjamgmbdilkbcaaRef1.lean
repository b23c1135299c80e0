/- The document's own reader: next. -/
import Derived.Test.YtjamgmbdilkbcaaKeep1
namespace Go.Proofs.Ytjamgmbdilkbcaa
open Go.RowKit

/-- the block of the document's reader. -/
def Ct (w : World) (p : Nat) (b : ByteArray) (k : Nat) (bad : Int) : Prop :=
  w.heap[p]? = some (.cells #[.string b, .int .i64 (k : Int), .int .i64 bad] 126 (0, 0))
section
variable {w w' : World} {p : Nat} {b : ByteArray} {k : Nat} {bad : Int}
theorem Ct.lt (h : Ct w p b k bad) : p < w.heap.size := (Array.getElem?_eq_some_iff.1 h).1
theorem Ct.c0 (h : Ct w p b k bad) : w.cell? ⟨p, 0, none⟩ = some (.string b) := by unfold Ct at h; simp [World.cell?, h]
theorem Ct.c1 (h : Ct w p b k bad) : w.cell? ⟨p, 1, none⟩ = some (.int .i64 (k : Int)) := by unfold Ct at h; simp [World.cell?, h]
theorem Ct.c2 (h : Ct w p b k bad) : w.cell? ⟨p, 2, none⟩ = some (.int .i64 bad) := by unfold Ct at h; simp [World.cell?, h]
theorem Ct.fz (h : Ct w p b k bad) (o : Nat) : w.frozen? ⟨p, o, none⟩ = false := by unfold Ct at h; simp [World.frozen?, h]
theorem Ct.kept {r : Option Nat} (h : Ct w p b k bad) (hg : w.grownBy w' r) (hr : some p ≠ r) : Ct w' p b k bad := (hg.block p h.lt hr).trans h
end

set_option maxHeartbeats 400000 in
theorem next_bad (p : Nat) (b : ByteArray) (k : Nat) (bad lo hi : Int) (w : World) (h : Ct w p b k bad) (hb : 0 ≤ bad) :
    Calls Try.prog 61 #[.pointer (some ⟨p, 0, none⟩), .int .i64 lo, .int .i64 hi] w fun e w' => e = .returned (.int .i64 0) ∧ w' = w := by
  have h2 := h.c2
  go_enter Try.func61, Try.ntmps61
  go_wp2
  go_ret
  exact ⟨rfl, rfl⟩

set_option maxHeartbeats 400000 in
theorem next_end (p : Nat) (b : ByteArray) (k : Nat) (lo hi : Int) (w : World) (h : Ct w p b k (-1)) (hk : b.size ≤ k) :
    Calls Try.prog 61 #[.pointer (some ⟨p, 0, none⟩), .int .i64 lo, .int .i64 hi] w fun e w' => e = .returned (.int .i64 0) ∧ ∃ n, w' = (w.drewN n).setCell ⟨p, 2, none⟩ (.int .i64 k) := by
  have h0 := h.c0
  have h1 := h.c1
  have h2 := h.c2
  have h3 := h.fz 2
  have hd : decide (b.size ≤ k) = true := by simpa using hk
  clear h
  go_enter Try.func61, Try.ntmps61
  go_wp2
  go_quiet (fail)
  go_wp2
  go_ret
  exact ⟨rfl, _, rfl⟩

set_option maxHeartbeats 400000 in
theorem next_low (p : Nat) (b : ByteArray) (k : Nat) (lo hi : Int) (w : World) (h : Ct w p b k (-1)) (hk : k < b.size) (hlo : ((b[k]'hk).toNat : Int) < lo) :
    Calls Try.prog 61 #[.pointer (some ⟨p, 0, none⟩), .int .i64 lo, .int .i64 hi] w fun e w' => e = .returned (.int .i64 0) ∧ ∃ n, w' = (w.drewN n).setCell ⟨p, 2, none⟩ (.int .i64 k) := by
  have h0 := h.c0
  have h1 := h.c1
  have h2 := h.c2
  have h3 := h.fz 2
  have hd : decide (b.size ≤ k) = false := by simpa using hk
  have hw : wrap64 ((b[k]'hk).toNat : Int) = ((b[k]'hk).toNat : Int) := wrap64_u8 _
  have hd2 : decide (((b[k]'hk).toNat : Int) < lo) = true := by simpa using hlo
  clear h
  go_enter Try.func61, Try.ntmps61
  go_wp2
  go_quiet (fail)
  go_wp2
  go_ret
  exact ⟨rfl, _, rfl⟩

set_option maxHeartbeats 400000 in
theorem next_high (p : Nat) (b : ByteArray) (k : Nat) (lo hi : Int) (w : World) (h : Ct w p b k (-1)) (hk : k < b.size) (hlo : ¬ ((b[k]'hk).toNat : Int) < lo) (hhi : hi < ((b[k]'hk).toNat : Int)) :
    Calls Try.prog 61 #[.pointer (some ⟨p, 0, none⟩), .int .i64 lo, .int .i64 hi] w fun e w' => e = .returned (.int .i64 0) ∧ ∃ n, w' = (w.drewN n).setCell ⟨p, 2, none⟩ (.int .i64 k) := by
  have h0 := h.c0
  have h1 := h.c1
  have h2 := h.c2
  have h3 := h.fz 2
  have hd : decide (b.size ≤ k) = false := by simpa using hk
  have hw : wrap64 ((b[k]'hk).toNat : Int) = ((b[k]'hk).toNat : Int) := wrap64_u8 _
  have hd2 : decide (((b[k]'hk).toNat : Int) < lo) = false := by simpa using hlo
  have hd3 : decide (hi < ((b[k]'hk).toNat : Int)) = true := by simpa using hhi
  clear h
  go_enter Try.func61, Try.ntmps61
  go_wp2
  go_quiet (fail)
  go_wp2
  go_ret
  exact ⟨rfl, _, rfl⟩

set_option maxHeartbeats 400000 in
theorem next_good (p : Nat) (b : ByteArray) (k : Nat) (lo hi : Int) (w : World) (h : Ct w p b k (-1)) (hk : k < b.size) (hs : b.size ≤ maxLen) (hlo : ¬ ((b[k]'hk).toNat : Int) < lo) (hhi : ¬ hi < ((b[k]'hk).toNat : Int)) :
    Calls Try.prog 61 #[.pointer (some ⟨p, 0, none⟩), .int .i64 lo, .int .i64 hi] w fun e w' => e = .returned (.int .i64 ((b[k]'hk).toNat : Int)) ∧ ∃ n m, w' = ((w.drewN n).setCell ⟨p, 1, none⟩ (.int .i64 ((k : Int) + 1))).drewN m := by
  have h0 := h.c0
  have h1 := h.c1
  have h2 := h.c2
  have h3 := h.fz 1
  have hd : decide (b.size ≤ k) = false := by simpa using hk
  have hw : wrap64 ((b[k]'hk).toNat : Int) = ((b[k]'hk).toNat : Int) := wrap64_u8 _
  have hd2 : decide (((b[k]'hk).toNat : Int) < lo) = false := by simpa using hlo
  have hd3 : decide (hi < ((b[k]'hk).toNat : Int)) = false := by simpa using hhi
  unfold maxLen at hs
  clear h
  go_enter Try.func61, Try.ntmps61
  go_wp2
  go_quiet (fail)
  go_wp2
  go_quiet (fail)
  go_wp2
  go_ret
  exact ⟨by show Ending.returned (.int .i64 (wrap64 ((b[k]'hk).toNat : Int))) = _; rw [wrap64_u8], _, _, rfl⟩

/-- Bad, by what was read so far. -/
def bd (s : Pu.St) : Int := if s.2 = true then (s.1 : Int) else -1

theorem Ct.setBad {w : World} {p : Nat} {b : ByteArray} {k : Nat} {bad : Int} (h : Ct w p b k bad) (n : Nat) (x : Int) : Ct ((w.drewN n).setCell ⟨p, 2, none⟩ (.int .i64 x)) p b k x := by
  unfold Ct at h ⊢
  simp [World.setCell, Array.getElem?_modify, h]

/-- the document's next, whatever comes. -/
theorem next_any (p : Nat) (b : ByteArray) (s : Pu.St) (lo hi : Int) (w : World) (h : Ct w p b s.1 (bd s)) (hs : b.size ≤ maxLen) :
    Calls Try.prog 61 #[.pointer (some ⟨p, 0, none⟩), .int .i64 lo, .int .i64 hi] w fun e w' =>
      e = .returned (.int .i64 (Pu.number b lo hi s).1) ∧ Ct w' p b (Pu.number b lo hi s).2.1 (bd (Pu.number b lo hi s).2) ∧ w.grownBy w' (some p) ∧ w'.heap.size = w.heap.size := by
  obtain ⟨k, bad⟩ := s
  cases bad with
  | true =>
    refine (next_bad p b k (bd (k, true)) lo hi w h (by simp [bd])).mono ?_
    rintro e w' ⟨rfl, rfl⟩
    exact ⟨by simp [Pu.number], by simpa [Pu.number] using h, grown_refl _ _, rfl⟩
  | false =>
    have h' : Ct w p b k (-1) := by simpa [bd] using h
    by_cases hk : b.size ≤ k
    · have e1 : Pu.number b lo hi (k, false) = (0, (k, true)) := by simp [Pu.number, hk]
      rw [e1]
      refine (next_end p b k lo hi w h' hk).mono ?_
      rintro e w' ⟨rfl, n, rfl⟩
      exact ⟨rfl, by simpa [bd] using h'.setBad n k, grown_setCell _ _ _ _ _, by simp [World.setCell]⟩
    · have hk' : k < b.size := by omega
      have hg := getD_byte b k hk'
      by_cases hlo : ((b[k]'hk').toNat : Int) < lo
      · have e1 : Pu.number b lo hi (k, false) = (0, (k, true)) := by
          simp only [Pu.number, hg]; rw [if_neg (by simp), if_neg (by simpa using hk), if_pos (Or.inl hlo)]
        rw [e1]
        refine (next_low p b k lo hi w h' hk' hlo).mono ?_
        rintro e w' ⟨rfl, n, rfl⟩
        exact ⟨rfl, by simpa [bd] using h'.setBad n k, grown_setCell _ _ _ _ _, by simp [World.setCell]⟩
      · by_cases hhi : hi < ((b[k]'hk').toNat : Int)
        · have e1 : Pu.number b lo hi (k, false) = (0, (k, true)) := by
            simp only [Pu.number, hg]; rw [if_neg (by simp), if_neg (by simpa using hk), if_pos (Or.inr hhi)]
          rw [e1]
          refine (next_high p b k lo hi w h' hk' hlo hhi).mono ?_
          rintro e w' ⟨rfl, n, rfl⟩
          exact ⟨rfl, by simpa [bd] using h'.setBad n k, grown_setCell _ _ _ _ _, by simp [World.setCell]⟩
        · have e1 : Pu.number b lo hi (k, false) = (((b[k]'hk').toNat : Int), (k + 1, false)) := by
            simp only [Pu.number, hg]; rw [if_neg (by simp), if_neg (by simpa using hk), if_neg (by omega)]
          rw [e1]
          refine (next_good p b k lo hi w h' hk' hs hlo hhi).mono ?_
          rintro e w' ⟨rfl, n, m, rfl⟩
          refine ⟨rfl, ?_, ?_, by simp [World.setCell]⟩
          · unfold Ct at h' ⊢
            simp [World.setCell, Array.getElem?_modify, h', bd]
          · have := grown_setCell w n p 1 (.int .i64 ((k : Int) + 1))
            exact ⟨this.os, this.tape, this.output, this.size, this.block⟩
end Go.Proofs.Ytjamgmbdilkbcaa
