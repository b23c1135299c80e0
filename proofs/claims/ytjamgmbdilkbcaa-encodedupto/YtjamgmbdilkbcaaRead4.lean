/- The walks of wire's reader: code. -/
import Derived.Test.YtjamgmbdilkbcaaRead3
namespace Go.Proofs.Ytjamgmbdilkbcaa
open Go.RowKit

theorem Try.info80 : (Try.prog.info? 80).map (fun i => (i.zero, i.size, i.bytes)) = some (some (.agg #[.int .i64 0, .int .i64 0]), 2, 16) := by kernel_rfl

/-- the cells of instructions. -/
def cc (l : List (Int × Int)) : List Value := l.flatMap fun x => [.int .i64 x.1, .int .i64 x.2]

theorem cc_snoc (l : List (Int × Int)) (x : Int × Int) : cc (l ++ [x]) = cc l ++ [.int .i64 x.1, .int .i64 x.2] := by simp [cc]
theorem cc_len (l : List (Int × Int)) : (cc l).length = l.length * 2 := by
  induction l with
  | nil => rfl
  | cons a l ih => simp [cc] at ih ⊢; omega

theorem code_succ (b : ByteArray) (ki fu pl n : Int) (s : Pu.St) (k : Nat) : Pu.code b ki fu pl n s (k + 1) =
    ((Pu.code b ki fu pl n s k).1 ++ [((Pu.number b 0 18 (Pu.code b ki fu pl n s k).2).1,
        (Pu.number b (Pu.argLo (Pu.number b 0 18 (Pu.code b ki fu pl n s k).2).1) (Pu.argHi ki fu pl n (Pu.number b 0 18 (Pu.code b ki fu pl n s k).2).1) (Pu.number b 0 18 (Pu.code b ki fu pl n s k).2).2).1)],
      (Pu.number b (Pu.argLo (Pu.number b 0 18 (Pu.code b ki fu pl n s k).2).1) (Pu.argHi ki fu pl n (Pu.number b 0 18 (Pu.code b ki fu pl n s k).2).1) (Pu.number b 0 18 (Pu.code b ki fu pl n s k).2).2).2) := rfl

/-- the box of four numbers. -/
def Bx (w : World) (q : Nat) (a b c d : Int) : Prop := w.heap[q]? = some (.cells #[.int .i64 a, .int .i64 b, .int .i64 c, .int .i64 d] 186 (0, 0))
theorem Bx.lt {w : World} {q : Nat} {a b c d : Int} (h : Bx w q a b c d) : q < w.heap.size := (Array.getElem?_eq_some_iff.1 h).1
theorem Bx.c0 {w : World} {q : Nat} {a b c d : Int} (h : Bx w q a b c d) : w.cell? ⟨q, 0, none⟩ = some (.int .i64 a) := by unfold Bx at h; simp [World.cell?, h]
theorem Bx.c1 {w : World} {q : Nat} {a b c d : Int} (h : Bx w q a b c d) : w.cell? ⟨q, 1, none⟩ = some (.int .i64 b) := by unfold Bx at h; simp [World.cell?, h]
theorem Bx.c2 {w : World} {q : Nat} {a b c d : Int} (h : Bx w q a b c d) : w.cell? ⟨q, 2, none⟩ = some (.int .i64 c) := by unfold Bx at h; simp [World.cell?, h]
theorem Bx.c3 {w : World} {q : Nat} {a b c d : Int} (h : Bx w q a b c d) : w.cell? ⟨q, 3, none⟩ = some (.int .i64 d) := by unfold Bx at h; simp [World.cell?, h]
theorem Bx.fz {w : World} {q : Nat} {a b c d : Int} (h : Bx w q a b c d) (o : Nat) : w.frozen? ⟨q, o, none⟩ = false := by unfold Bx at h; simp [World.frozen?, h]
theorem Bx.set3 {w : World} {q : Nat} {a b c d : Int} (h : Bx w q a b c d) (n : Int) : Bx (w.setCell ⟨q, 3, none⟩ (.int .i64 n)) q a b c n := by unfold Bx at h ⊢; simp [World.setCell, Array.getElem?_modify, h]
theorem Bx.kept {w w' : World} {q : Nat} {a b c d : Int} {r : Option Nat} (h : Bx w q a b c d) (hg : w.grownBy w' r) (hr : some q ≠ r) : Bx w' q a b c d := (hg.block q h.lt hr).trans h

theorem owns_base {w : World} {B B' e size n : Nat} {v : Value} {xs : List Value} (h : w.ownsRow B e size v n xs) (hB : B' ≤ B) : w.ownsRow B' e size v n xs := by
  refine ⟨h.1, ?_⟩
  rcases h.2 with h2 | ⟨g, cap, cur, hv, hg, r⟩
  · exact .inl h2
  · exact .inr ⟨g, cap, cur, hv, Nat.le_trans hB hg, r⟩

theorem grown_none {w w' : World} {r : Option Nat} (h : w.grownBy w' none) : w.grownBy w' r := ⟨h.os, h.tape, h.output, h.size, fun k hk _ => h.block k hk (by simp)⟩

theorem cell_two (w : World) (x y : Value) (t : TypeId) : ∀ j u, [x, y][j]? = some u → (w.alloc (.cells #[x, y] t)).cell? ((⟨w.heap.size, 0, none⟩ : Addr).add j) = some u := by
  intro j u hj
  have hadd : (⟨w.heap.size, 0, none⟩ : Addr).add j = ⟨w.heap.size, j, none⟩ := by unfold Addr.add; split <;> simp_all
  rw [hadd]
  have hh : (w.alloc (.cells #[x, y] t)).heap[w.heap.size]? = some (.cells #[x, y] t) := heap_alloc_new w _
  rw [cell_of_row _ w.heap.size j #[x, y] t (0, 0) hh]
  simpa using hj

set_option maxHeartbeats 1000000 in
theorem code_any (p : Nat) (b : ByteArray) (s : Pu.St) (ki fu pl : Int) (n : Nat) (w : World) (h : Rd w p b s) (hs : b.size ≤ maxLen)
    (hki : 0 ≤ ki ∧ ki ≤ 1000) (hfu : 0 ≤ fu ∧ fu ≤ 1000) (hpl : 0 ≤ pl ∧ pl ≤ 1000) (hn : n ≤ 1000) :
    Calls Try.prog 110 #[.pointer (some ⟨p, 0, none⟩), .agg #[.int .i64 ki, .int .i64 fu, .int .i64 pl, .int .i64 n]] w fun e w' =>
      ∃ v, e = .returned v ∧ w'.ownsRow w.heap.size 80 2 v n (cc (Pu.code b ki fu pl n s n).1) ∧
        Rd w' p b (Pu.code b ki fu pl n s n).2 ∧ w.grownBy w' (some p) := by
  obtain ⟨i0, hi0, hz0, hz1, hz2⟩ := info_parts Try.info80
  have hp := h.lt
  have hb0 : Bx (w.alloc (.cells #[.int .i64 ki, .int .i64 fu, .int .i64 pl, .int .i64 (n : Int)] 186)) w.heap.size ki fu pl n := heap_alloc_new w _
  have hb1 := hb0.kept (World.grownBy_alloc _ (.cells #[] 80) none) (by simp)
  have hr1 := (h.kept (World.grownBy_alloc w (.cells #[.int .i64 ki, .int .i64 fu, .int .i64 pl, .int .i64 (n : Int)] 186) none) (by simp)).kept (World.grownBy_alloc _ (.cells #[] 80) none) (by simp)
  have hown1 := World.ownsRow_made (base := w.heap.size + 1) (e := 80) (size := 2) (w.alloc (.cells #[.int .i64 ki, .int .i64 fu, .int .i64 pl, .int .i64 (n : Int)] 186)) #[] 0 (by simp) (by decide) (by simp)
  have hg1 := grown_trans (World.grownBy_alloc w (.cells #[.int .i64 ki, .int .i64 fu, .int .i64 pl, .int .i64 (n : Int)] 186) (some p)) (World.grownBy_alloc _ (.cells #[] 80) (some p))
  clear h hb0
  go_enter Try.func110, Try.ntmps110
  go_wp2
  go_loopw [5, 6] (fun v i wr => ∃ k : Nat, k ≤ n ∧ i = .int .i64 k ∧ wr.ownsRow (w.heap.size + 1) 80 2 v k (cc (Pu.code b ki fu pl n s k).1) ∧ Rd wr p b (Pu.code b ki fu pl n s k).2 ∧ w.grownBy wr (some p) ∧ Bx wr w.heap.size ki fu pl n) (fun _ i _ => n - (intOf i).toNat)
  case atStart => exact ⟨0, Nat.zero_le _, rfl, by simpa [Pu.code, cc] using hown1, hr1, hg1, hb1⟩
  case round =>
    obtain ⟨k, hk, rfl, hown, hrd, hgr, hbx⟩ := hrel
    clear hown1 hr1 hg1 hb1
    have hc3 := hbx.c3
    by_cases hlt : k < n
    · go_wp2_with fail
      refine (number_any p b _ 0 18 wr hrd hs).mono ?_
      rintro e w2 ⟨rfl, hrd2, hg2, hsz2⟩
      have hown2 := owns_grown hown hg2 (by omega)
      have hbx2 := hbx.kept hg2 (by simp; omega)
      have hop0 := Pu.number_rng b 0 18 (Pu.code b ki fu pl n s k).2
      have hop1 := Pu.number_hi b 0 18 (Pu.code b ki fu pl n s k).2 (by decide)
      have hgr2 := grown_trans hgr hg2
      have HS : Hid _ := code_succ b ki fu pl n s k
      clear hown hrd hsz2 hbx hc3 hg2 hgr
      generalize Pu.number b 0 18 (Pu.code b ki fu pl n s k).2 = q at *
      obtain ⟨op, s2⟩ := q
      simp only at *
      obtain ⟨hop0, _⟩ := hop0
      have hc0 := hbx2.c0
      have hc1 := hbx2.c1
      have hc2 := hbx2.c2
      have hc3 := hbx2.c3
      go_wp2_with fail
      refine (argRange_any ki fu pl n op _ hki hfu hpl (by omega) hop0 hop1).mono ?_
      rintro e w3 ⟨rfl, hg3⟩
      have hown3 := hown2.kept hg3 (by cases u5.ownBlock <;> simp)
      have hbx3 := hbx2.kept hg3 (by simp)
      have hrd3 := hrd2.kept hg3 (by simp)
      have hgr3 := grown_trans hgr2 (grown_none hg3)
      clear hown2 hbx2 hrd2 hgr2 hg3 hc0 hc1 hc2 hc3
      go_wp2_with fail
      refine (number_any p b _ _ _ w3 hrd3 hs).mono ?_
      rintro e w4 ⟨rfl, hrd4, hg4, hsz4⟩
      have hown4 := owns_grown hown3 hg4 (by omega)
      have hbx4 := hbx3.kept hg4 (by simp; omega)
      have hgr4 := grown_trans hgr3 hg4
      clear hown3 hbx3 hrd3 hgr3 hg4 hsz4
      generalize Pu.number b (Pu.argLo op) (Pu.argHi ki fu pl n op) s2 = q at *
      obtain ⟨arg, s3⟩ := q
      simp only at *
      go_wp2_with (at_builtin; refine wpList_append_own _ rfl _ _ 76 rfl (w.heap.size + 1) 80 i0 (.agg #[.int .i64 0, .int .i64 0]) 2 16 Try.underlying76 hi0 hz0 hz1 hz2 rfl (by decide) _ _ _ rfl (hown4.alloc _) ⟨w4.heap.size, 0, none⟩ 1 1 [.int .i64 op, .int .i64 arg] rfl rfl (cell_two _ _ _ _) ?c2 ?c3 ?c4 ?c5 ?_)
      case c2 => intro u hu; simp at hu; rcases hu with rfl | rfl <;> rfl
      case c3 => unfold maxLen; omega
      case c4 => omega
      case c5 => have := hgr4.size; have := hbx4.lt; simp; omega
      intro v' w5 hown' hgrow _
      have hgr5 : w.grownBy w5 (some p) := grown_append (B := w.heap.size) rfl hgr4 (owns_base (hown4.alloc _) (by omega)) (World.grownBy_alloc w4 _ (some p)) hgrow
      have hrd5 : Rd w5 p b s3 := (hrd4.kept (World.grownBy_alloc w4 _ none) (by simp)).kept hgrow (fun e => by have := (hown4.lt p e.symm).1; omega)
      have hbx5 := (hbx4.kept (World.grownBy_alloc w4 _ none) (by simp)).kept hgrow (fun e => by have := (hown4.lt _ e.symm).1; omega)
      clear hown4 hgrow hrd4 hgr4 hbx4
      go_wp2
      go_roundw
      case rel => exact ⟨k + 1, hlt, by go_num, by rw [HS.out, cc_snoc]; exact hown', by rw [HS.out]; exact hrd5, hgr5, hbx5⟩
      case measure => simp [intOf]; omega
    · go_wp2_with fail
      have hkn : k = n := by omega
      subst hkn
      go_ret
      exact ⟨_, rfl, owns_base hown (by omega), hrd, hgr⟩
end Go.Proofs.Ytjamgmbdilkbcaa
