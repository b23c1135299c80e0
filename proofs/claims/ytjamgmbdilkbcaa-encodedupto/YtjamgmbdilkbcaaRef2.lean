/- The document's own reader: some, least, most. -/
import Derived.Test.YtjamgmbdilkbcaaRef1
namespace Go.Proofs.Ytjamgmbdilkbcaa
open Go.RowKit

/-- a slice's length. -/
def lenOf : Value → Nat
  | .slice _ l _ => l
  | _ => 0

theorem number_stuck (b : ByteArray) (lo hi : Int) (s : Pu.St) (h : s.2 = true) : Pu.number b lo hi s = (0, s) := by unfold Pu.number; rw [if_pos h]
theorem nums_stuck (b : ByteArray) (hi : Int) (s : Pu.St) (k : Nat) (h : (Pu.nums b hi s k).2.2 = true) : ∀ n, k ≤ n → (Pu.nums b hi s n).2 = (Pu.nums b hi s k).2 := by
  intro n hn
  induction n with
  | zero => have : k = 0 := by omega
            subst this; rfl
  | succ n ih =>
    by_cases e : k = n + 1
    · subst e; rfl
    · have := ih (by omega)
      show (Pu.number b 0 hi (Pu.nums b hi s n).2).2 = _
      rw [number_stuck _ _ _ _ (by rw [this]; exact h), this]

theorem bd_neg {s : Pu.St} : bd s < 0 ↔ s.2 = false := by
  unfold bd
  cases s.2 <;> simp

/-- what comes out of some. -/
def SomeOut (w w' : World) (p : Nat) (b : ByteArray) (most hi : Int) (s : Pu.St) (e : Ending) : Prop :=
  ∃ v l, e = .returned v ∧ w'.ownsRow w.heap.size 3 1 v l.length (l.map (Value.int .i64)) ∧ l.length ≤ 255 ∧
    Ct w' p b (Pu.list b most hi s).2.1 (bd (Pu.list b most hi s).2) ∧ w.grownBy w' (some p) ∧ ((Pu.list b most hi s).2.2 = false → l = (Pu.list b most hi s).1)

set_option maxHeartbeats 1000000 in
theorem some_any (p : Nat) (b : ByteArray) (s : Pu.St) (most hi : Int) (w : World) (h : Ct w p b s.1 (bd s)) (hs : b.size ≤ maxLen) :
    Calls Try.prog 62 #[.pointer (some ⟨p, 0, none⟩), .int .i64 most, .int .i64 hi] w fun e w' => SomeOut w w' p b most hi s e := by
  obtain ⟨i0, hi0, hz0, hz1, hz2⟩ := info_parts Try.info3
  have hp := h.lt
  go_enter Try.func62, Try.ntmps62
  go_wp2_with fail
  refine (next_any p b s 0 most _ h hs).mono ?_
  rintro e w1 ⟨rfl, h1, hg1, hsz1⟩
  have HL : Hid (Pu.list b most hi s = Pu.nums b hi (Pu.number b 0 most s).2 (Pu.number b 0 most s).1.toNat) := rfl
  have hr := Pu.number_rng b 0 most s
  have HK : Hid ((Pu.number b 0 most s).2.2 = true → (Pu.number b 0 most s).1 = 0) := by
    intro hb
    have h0 := hb
    revert h0
    unfold Pu.number
    split
    · intro _; rfl
    · split
      · intro _; rfl
      · split
        · intro _; rfl
        · intro h0; simp at h0
  clear h hsz1
  generalize Pu.number b 0 most s = q at *
  obtain ⟨c, s1⟩ := q
  simp only at *
  obtain ⟨n, rfl⟩ := Int.eq_ofNat_of_zero_le hr.1
  have hn : n ≤ 255 := by omega
  clear hr
  go_wp2
  go_loopw [8] (fun v wr => ∃ k : Nat, k ≤ n ∧ wr.ownsRow w.heap.size 3 1 v k ((Pu.nums b hi s1 k).1.map (Value.int .i64)) ∧ Ct wr p b (Pu.nums b hi s1 k).2.1 (bd (Pu.nums b hi s1 k).2) ∧ w.grownBy wr (some p)) (fun v _ => n - lenOf v)
  case atStart => exact ⟨0, Nat.zero_le _, World.ownsRow_nil _ _ _ _, h1, hg1⟩
  case round =>
    obtain ⟨k, hk, hown, hrd, hgr⟩ := hrel
    clear h1 hg1
    obtain ⟨ao, cap, rfl⟩ := owns_shape hown
    have d2 := hrd.c2
    by_cases hlt : k < n ∧ (Pu.nums b hi s1 k).2.2 = false
    · obtain ⟨hkn, hfine⟩ := hlt
      have hbn := bd_neg.2 hfine
      go_wp2_with fail
      refine (next_any p b _ 0 hi wr hrd hs).mono ?_
      rintro e w2 ⟨rfl, hrd2, hg2, hsz2⟩
      have hown2 := owns_grown hown hg2 hp
      have HS : Hid (Pu.nums b hi s1 (k + 1) = ((Pu.nums b hi s1 k).1 ++ [(Pu.number b 0 hi (Pu.nums b hi s1 k).2).1], (Pu.number b 0 hi (Pu.nums b hi s1 k).2).2)) := rfl
      clear hown hrd hsz2 hfine hbn d2
      generalize Pu.number b 0 hi (Pu.nums b hi s1 k).2 = q at *
      obtain ⟨c, s2⟩ := q
      simp only at *
      go_wp2_with (at_builtin; refine wpList_append_own _ rfl _ _ 30 rfl w.heap.size 3 i0 (.int .i64 0) 1 8 Try.underlying30 hi0 hz0 hz1 hz2 rfl (by decide) _ _ _ rfl (hown2.alloc _) ⟨w2.heap.size, 0, none⟩ 1 1 [.int .i64 c] rfl rfl (cell_one_new _ _ _) ?c2 ?c3 ?c4 ?c5 ?_)
      case c2 => intro u hu; simp at hu; subst hu; rfl
      case c3 => unfold maxLen; omega
      case c4 => omega
      case c5 => have := hgr.size; have := hg2.size; simp only [World.size_alloc]; omega
      intro v' w3 hown' hgrow _
      have hgr' := grown_append rfl (grown_trans hgr hg2) (hown2.alloc _) (World.grownBy_alloc w2 _ (some p)) hgrow
      have hrd' : Ct w3 p b s2.1 (bd s2) := (hrd2.kept (World.grownBy_alloc w2 _ none) (by simp)).kept hgrow (fun e => by have := (hown2.lt p e.symm).1; omega)
      clear hown2 hgrow hrd2 hg2 hgr
      obtain ⟨ao', cap', rfl⟩ := owns_shape hown'
      go_wp2
      go_roundw
      case rel => exact ⟨k + 1, hkn, by rw [HS.out]; simpa using hown', by rw [HS.out]; exact hrd', hgr'⟩
      case measure => simp [lenOf]; omega
    · have fin : SomeOut w wr p b most hi s (.returned (.slice ao k cap)) := by
        have hlen := Pu.nums_len b hi s1 k
        refine ⟨_, (Pu.nums b hi s1 k).1, rfl, by rw [hlen]; exact hown, by omega, ?_, hgr, ?_⟩
        · rw [HL.out, Int.toNat_natCast]
          by_cases e : k = n
          · subst e; exact hrd
          · have hb : (Pu.nums b hi s1 k).2.2 = true := by
              cases hx : (Pu.nums b hi s1 k).2.2 with
              | true => rfl
              | false => exact absurd ⟨by omega, hx⟩ hlt
            rw [nums_stuck b hi s1 k hb n (by omega)]
            exact hrd
        · rw [HL.out, Int.toNat_natCast]
          intro hf
          by_cases e : k = n
          · subst e; rfl
          · have hb : (Pu.nums b hi s1 k).2.2 = true := by
              cases hx : (Pu.nums b hi s1 k).2.2 with
              | true => rfl
              | false => exact absurd ⟨by omega, hx⟩ hlt
            rw [nums_stuck b hi s1 k hb n (by omega), hb] at hf
            simp at hf
      have FIN : Hid _ := fin
      clear fin
      by_cases hkn : k < n
      · have hb : ¬ bd (Pu.nums b hi s1 k).2 < 0 := fun h0 => hlt ⟨hkn, bd_neg.1 h0⟩
        clear hlt
        go_wp2
        go_ret
        exact FIN.out
      · clear hlt
        go_wp2
        go_ret
        exact FIN.out

set_option maxHeartbeats 1000000 in
theorem least_any (op : Int) (w : World) (h0 : 0 ≤ op) (h1 : op ≤ 18) :
    Calls Try.prog 93 #[.int .i64 op] w fun e w' => e = .returned (.int .i64 (Pu.argLo op)) ∧ w' = w := by
  have hop : op = 0 ∨ op = 1 ∨ op = 2 ∨ op = 3 ∨ op = 4 ∨ op = 5 ∨ op = 6 ∨ op = 7 ∨ op = 8 ∨ op = 9 ∨ op = 10 ∨ op = 11 ∨ op = 12 ∨ op = 13 ∨ op = 14 ∨ op = 15 ∨ op = 16 ∨ op = 17 ∨ op = 18 := by omega
  rcases hop with rfl | rfl | rfl | rfl | rfl | rfl | rfl | rfl | rfl | rfl | rfl | rfl | rfl | rfl | rfl | rfl | rfl | rfl | rfl
  all_goals clear h0 h1
  all_goals (go_enter Try.func93, Try.ntmps93)
  all_goals go_wp2
  all_goals go_ret
  all_goals exact ⟨rfl, rfl⟩

set_option maxHeartbeats 2000000 in
theorem most_any (op pl ki fu n : Int) (w : World) (h0 : 0 ≤ op) (h1 : op ≤ 18) (hki : 0 ≤ ki ∧ ki ≤ 1000) (hfu : 0 ≤ fu ∧ fu ≤ 1000) (hpl : 0 ≤ pl ∧ pl ≤ 1000) (hn : 0 ≤ n ∧ n ≤ 1000) :
    Calls Try.prog 94 #[.int .i64 op, .int .i64 pl, .int .i64 ki, .int .i64 fu, .int .i64 n] w fun e w' => e = .returned (.int .i64 (Pu.argHi ki fu pl n op)) ∧ w' = w := by
  obtain ⟨ha0, ha1⟩ := hki
  obtain ⟨hb0, hb1⟩ := hfu
  obtain ⟨hc0, hc1⟩ := hpl
  obtain ⟨hd0, hd1⟩ := hn
  have hop : op = 0 ∨ op = 1 ∨ op = 2 ∨ op = 3 ∨ op = 4 ∨ op = 5 ∨ op = 6 ∨ op = 7 ∨ op = 8 ∨ op = 9 ∨ op = 10 ∨ op = 11 ∨ op = 12 ∨ op = 13 ∨ op = 14 ∨ op = 15 ∨ op = 16 ∨ op = 17 ∨ op = 18 := by omega
  rcases hop with rfl | rfl | rfl | rfl | rfl | rfl | rfl | rfl | rfl | rfl | rfl | rfl | rfl | rfl | rfl | rfl | rfl | rfl | rfl
  all_goals clear h0 h1
  all_goals (go_enter Try.func94, Try.ntmps94)
  all_goals go_wp2
  all_goals go_ret
  all_goals exact ⟨rfl, rfl⟩
end Go.Proofs.Ytjamgmbdilkbcaa
