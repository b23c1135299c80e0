import Derived.Test.YtjamgmbdilkbcaaLotGased39
import Derived.Test.YtjamgmbdilkbcaaLotGased27
/- Kept: a deal. -/
namespace Go.Proofs.Ytjamgmbdilkbcaa
open Go.RowKit

def I64 (n : Int) : Prop := -9223372036854775808 ≤ n ∧ n ≤ 9223372036854775807

/-- what does leaves. -/
def DoesOut (w w' : World) (q : Nat) (B : Bk) (what who to n : Nat) (r : Ending) : Prop :=
  r = .returned (.tuple #[.string (B.does what who to n).1.1, .agg #[.int .i64 (B.does what who to n).1.2.1, .int .i64 0, .int .i64 (B.does what who to n).1.2.2]]) ∧ BkR w' q (B.does what who to n).2 ∧ w.grownBy w' (some q)

theorem BkR.alloc2 {w : World} {q : Nat} {B : Bk} (h : BkR w q B) (O1 O2 : Obj) : BkR ((w.alloc O1).alloc O2) q B :=
  (h.kept (World.grownBy_alloc w O1 none) (by simp)).kept (World.grownBy_alloc _ O2 none) (by simp)
theorem grown_alloc2 {w W : World} {q : Nat} (h : w.grownBy W (some q)) (O1 O2 : Obj) : w.grownBy ((W.alloc O1).alloc O2) (some q) :=
  grown_trans h (grown_trans (World.grownBy_alloc W O1 (some q)) (World.grownBy_alloc _ O2 (some q)))
theorem does_fin {w W : World} {q : Nat} {B B' : Bk} {what who to n : Nat} {s : ByteArray} {e u : Int} (HD : B.does what who to n = ((s, e, u), B')) (hB : BkR W q B') (hg : w.grownBy W (some q)) :
    DoesOut w W q B what who to n (.returned (.tuple #[.string s, .agg #[.int .i64 e, .int .i64 0, .int .i64 u]])) := by
  unfold DoesOut
  rw [HD]
  exact ⟨rfl, hB, hg⟩
/-- behind the call that makes the script. -/
theorem does_mid {w W w3 : World} {q : Nat} {B' : Bk} (O1 : Obj) (hB : BkR W q B') (hg : w.grownBy W (some q)) (hs : W.heap.size = w.heap.size) (hb : Below ((W.alloc O1).alloc (.cells #[.int .i64 0, .int .i64 0, .int .i64 0] 52)).heap.size ((W.alloc O1).alloc (.cells #[.int .i64 0, .int .i64 0, .int .i64 0] 52)) w3) :
    B3 w3 (w.heap.size + 1) 52 (.int .i64 0) (.int .i64 0) (.int .i64 0) ∧ BkR w3 q B' ∧ w.grownBy w3 (some q) := by
  rw [← hs]
  refine ⟨(hb.block _ (by simp)).trans (heap_alloc2_new W _ _), (hB.alloc2 _ _).below hb (by have := hB.lt; simp; omega), grown_trans (grown_alloc2 hg _ _) (grown_below hb _)⟩
theorem does_set {w w3 : World} {q r : Nat} {B' : Bk} (hr : q ≠ r) (hB : BkR w3 q B') (hg : w.grownBy w3 (some q)) (hw : w.heap.size ≤ r) (a b c : Value) :
    BkR (((w3.setCell ⟨r, 0, none⟩ a).setCell ⟨r, 1, none⟩ b).setCell ⟨r, 2, none⟩ c) q B' ∧ w.grownBy (((w3.setCell ⟨r, 0, none⟩ a).setCell ⟨r, 1, none⟩ b).setCell ⟨r, 2, none⟩ c) (some q) := by
  have e : ∀ (X : World) (p : Addr) (v : Value), p.block = r → BkR X q B' → w.grownBy X (some q) → BkR (X.setCell p v) q B' ∧ w.grownBy (X.setCell p v) (some q) := fun X p v hp h1 h2 => by
    obtain ⟨C, k1, k2⟩ := h1.ex
    refine ⟨⟨C, by rw [Below.heap_setCell _ _ _ _ (by rw [hp]; exact hr)]; exact k1, k2⟩, ⟨h2.os, h2.tape, h2.output, by simpa using h2.size, fun k hk hk2 => ?_⟩⟩
    rw [Below.heap_setCell _ _ _ _ (by rw [hp]; omega)]
    exact h2.block k hk hk2
  obtain ⟨a1, a2⟩ := e w3 ⟨r, 0, none⟩ a rfl hB hg
  obtain ⟨b1, b2⟩ := e _ ⟨r, 1, none⟩ b rfl a1 a2
  exact e _ ⟨r, 2, none⟩ c rfl b1 b2

set_option maxRecDepth 100000 in
set_option maxHeartbeats 1000000 in
theorem does_any (q : Nat) (B : Bk) (rwhat rwho rto rn : Int) (what who to n : Nat) (w : World) (h : BkR w q B) (i1 : I64 rwhat) (i2 : I64 rwho) (i3 : I64 rto) (i4 : I64 rn)
    (p1 : Ln.pick rwhat 3 = what) (p2 : Ln.pick rwho 8 = who) (p3 : Ln.pick rto 10 = to) (p4 : Ln.pick rn 256 = n) (l1 : what < 3) (l2 : who < 8) (l3 : to < 10) (l4 : n < 256) :
    Calls Try.prog 48 #[.pointer (some ⟨q, 0, none⟩), .agg #[.int .i64 rwhat, .int .i64 rwho, .int .i64 rto, .int .i64 rn]] w fun e w' => DoesOut w w' q B what who to n e := by
  have hq := h.lt
  have P1 := hid fun W => kpick_any rwhat 3 i1 (by omega) W
  have P2 := hid fun W => kpick_any rwho 8 i2 (by omega) W
  have P3 := hid fun W => kpick_any rto 10 i3 (by omega) W
  have P4 := hid fun W => kpick_any rn 256 i4 (by omega) W
  rw [p1] at P1
  rw [p2] at P2
  rw [p3] at P3
  rw [p4] at P4
  clear p1 p2 p3 p4 i1 i2 i3 i4
  go_enter Try.func48, Try.ntmps48
  go_wp2_with fail
  refine (P2.out _).mono ?_
  rintro e w1 ⟨rfl, rfl⟩
  go_wp2_with fail
  refine (P3.out _).mono ?_
  rintro e w1 ⟨rfl, rfl⟩
  go_wp2_with fail
  refine (P4.out _).mono ?_
  rintro e w1 ⟨rfl, rfl⟩
  go_wp2_with fail
  refine (P1.out _).mono ?_
  rintro e w1 ⟨rfl, rfl⟩
  clear P1 P2 P3 P4
  have ci := h.ci l2
  have z := h.fz
  have zw := z who
  by_cases w2 : what = 2
  · subst w2
    by_cases hi : B.is who = true
    · have HD : Hid (B.does 2 who to n = ((burnB, 0, 9), B.out who)) := hid (by unfold Bk.does; rw [if_pos ⟨rfl, hi⟩])
      have HI := hid hi
      rw [hi] at ci
      have CB := hid (h.setI l2 false)
      by_cases t8 : to < 8
      · have ct := h.ci t8
        generalize B.is to = bt at ct
        clear h hi
        go_wp2
        all_goals (refine bodyPost_ret (v := .tuple #[.string burnB, .agg #[.int .i64 0, .int .i64 0, .int .i64 9]]) (by simp [results, Try.results48, go_sem, burnB]) rfl (does_fin HD.out (BkR.alloc2 (CB.out) _ _) (grown_alloc2 (grown_set _ _ _ _) _ _)))
      · clear h hi
        go_wp2
        refine bodyPost_ret (v := .tuple #[.string burnB, .agg #[.int .i64 0, .int .i64 0, .int .i64 9]]) (by simp [results, Try.results48, go_sem, burnB]) rfl (does_fin HD.out (BkR.alloc2 (CB.out) _ _) (grown_alloc2 (grown_set _ _ _ _) _ _))
    · rw [Bool.not_eq_true] at hi
      have HD : Hid (B.does 2 who to n = ((burnB, 7, 2), B)) := hid (by unfold Bk.does; rw [if_neg (by simp [hi]), if_pos rfl])
      rw [hi] at ci
      have CB := hid h
      by_cases t8 : to < 8
      · have ct := h.ci t8
        generalize B.is to = bt at ct
        clear h hi
        go_wp2
        all_goals (refine bodyPost_ret (v := .tuple #[.string burnB, .agg #[.int .i64 7, .int .i64 0, .int .i64 2]]) (by simp [results, Try.results48, go_sem, burnB]) rfl (does_fin HD.out (BkR.alloc2 (CB.out) _ _) (grown_alloc2 (grown_refl _ _) _ _)))
      · clear h hi
        go_wp2
        refine bodyPost_ret (v := .tuple #[.string burnB, .agg #[.int .i64 7, .int .i64 0, .int .i64 2]]) (by simp [results, Try.results48, go_sem, burnB]) rfl (does_fin HD.out (BkR.alloc2 (CB.out) _ _) (grown_alloc2 (grown_refl _ _) _ _))
  · by_cases w1 : what = 1
    · subst w1
      by_cases hi : B.is who = true
      · have HI := hid hi
        rw [hi] at ci
        by_cases t8 : to < 8
        · have ct := h.ci t8
          by_cases te : to = who
          · have HD : Hid (B.does 1 who to n = ((giveB (UInt8.ofNat to), 0, 10), (B.out who).put to (B.n who))) := hid (by unfold Bk.does; rw [if_neg (by omega), if_neg (by omega), if_neg (by simp [hi]), if_neg (by omega), if_neg (fun x => by have := x.2.2.2; omega), if_pos rfl])
            have cn := h.cn l2
            obtain rfl : who = to := te.symm
            have zm := z (8 + who)
            clear ct
            have CB := hid (((h.setI l2 false).setI l2 true).setN l2 (B.n who))
            have CG := hid (grown_trans (grown_trans (grown_set w q who (.bool false)) (grown_set _ q who (.bool true))) (grown_set _ q (8 + who) (.int .i64 (B.n who))))
            have CC := hid fun W => given_any who W
            rw [byte_nat (by omega : who < 256)] at CC
            generalize giveB (UInt8.ofNat who) = SC at CC HD
            clear h hi
            go_wp2_with fail
            refine (CC.out _).mono ?_
            rintro e w3 ⟨rfl, hb3⟩
            obtain ⟨r3, hB3, hg3⟩ := does_mid _ CB.out CG.out (by simp) hb3
            clear hb3 CC CB CG
            have g0 := r3.c0
            have g1 := r3.c1
            have g2 := r3.c2
            have e0 := r3.fz 0
            have e1 := r3.fz 1
            have e2 := r3.fz 2
            go_wp2
            clear g0 g1 g2 e0 e1 e2
            have R := ((r3.set0 (.int .i64 0)).set1 (.int .i64 0)).set2 (.int .i64 10)
            have q0 := R.c0
            have q1 := R.c1
            have q2 := R.c2
            obtain ⟨x1, x2⟩ := does_set (r := w.heap.size + 1) (by omega) hB3 hg3 (by omega) (.int .i64 0) (.int .i64 0) (.int .i64 10)
            refine bodyPost_ret (v := .tuple #[.string SC, .agg #[.int .i64 0, .int .i64 0, .int .i64 10]]) (by simp [results, Try.results48, go_sem, q0, q1, q2]) rfl (does_fin HD.out x1 x2)
          · by_cases ti : B.is to = true
            · have HD : Hid (B.does 1 who to n = ((giveB (UInt8.ofNat to), 8, 8), B)) := hid (by unfold Bk.does; rw [if_neg (by omega), if_neg (by omega), if_neg (by simp [hi]), if_neg (by omega), if_pos ⟨rfl, t8, ti, .inr te⟩])
              rw [ti] at ct
              clear hi ti
              have CB := hid (h)
              have CG := hid (grown_refl w (some q))
              have CC := hid fun W => given_any to W
              rw [byte_nat (by omega : to < 256)] at CC
              generalize giveB (UInt8.ofNat to) = SC at CC HD
              clear h
              go_wp2_with fail
              refine (CC.out _).mono ?_
              rintro e w3 ⟨rfl, hb3⟩
              obtain ⟨r3, hB3, hg3⟩ := does_mid _ CB.out CG.out (by simp) hb3
              clear hb3 CC CB CG
              have g0 := r3.c0
              have g1 := r3.c1
              have g2 := r3.c2
              have e0 := r3.fz 0
              have e1 := r3.fz 1
              have e2 := r3.fz 2
              go_wp2
              clear g0 g1 g2 e0 e1 e2
              have R := ((r3.set0 (.int .i64 8)).set1 (.int .i64 0)).set2 (.int .i64 8)
              have q0 := R.c0
              have q1 := R.c1
              have q2 := R.c2
              obtain ⟨x1, x2⟩ := does_set (r := w.heap.size + 1) (by omega) hB3 hg3 (by omega) (.int .i64 8) (.int .i64 0) (.int .i64 8)
              refine bodyPost_ret (v := .tuple #[.string SC, .agg #[.int .i64 8, .int .i64 0, .int .i64 8]]) (by simp [results, Try.results48, go_sem, q0, q1, q2]) rfl (does_fin HD.out x1 x2)
            · rw [Bool.not_eq_true] at ti
              have HD : Hid (B.does 1 who to n = ((giveB (UInt8.ofNat to), 0, 10), (B.out who).put to (B.n who))) := hid (by unfold Bk.does; rw [if_neg (by omega), if_neg (by omega), if_neg (by simp [hi]), if_neg (by omega), if_neg (fun x => by have := x.2.2.1; rw [ti] at this; exact absurd this (by decide)), if_pos rfl])
              rw [ti] at ct
              have cn := h.cn l2
              have cm := h.cn t8
              have zt := z to
              have zm := z (8 + to)
              have tw : who ≠ to := fun e => te e.symm
              have CB := hid (((h.setI l2 false).setI t8 true).setN t8 (B.n who))
              have CG := hid (grown_trans (grown_trans (grown_set w q who (.bool false)) (grown_set _ q to (.bool true))) (grown_set _ q (8 + to) (.int .i64 (B.n who))))
              have CC := hid fun W => given_any to W
              rw [byte_nat (by omega : to < 256)] at CC
              generalize giveB (UInt8.ofNat to) = SC at CC HD
              clear h hi ti
              go_wp2_with fail
              refine (CC.out _).mono ?_
              rintro e w3 ⟨rfl, hb3⟩
              obtain ⟨r3, hB3, hg3⟩ := does_mid _ CB.out CG.out (by simp) hb3
              clear hb3 CC CB CG
              have g0 := r3.c0
              have g1 := r3.c1
              have g2 := r3.c2
              have e0 := r3.fz 0
              have e1 := r3.fz 1
              have e2 := r3.fz 2
              go_wp2
              clear g0 g1 g2 e0 e1 e2
              have R := ((r3.set0 (.int .i64 0)).set1 (.int .i64 0)).set2 (.int .i64 10)
              have q0 := R.c0
              have q1 := R.c1
              have q2 := R.c2
              obtain ⟨x1, x2⟩ := does_set (r := w.heap.size + 1) (by omega) hB3 hg3 (by omega) (.int .i64 0) (.int .i64 0) (.int .i64 10)
              refine bodyPost_ret (v := .tuple #[.string SC, .agg #[.int .i64 0, .int .i64 0, .int .i64 10]]) (by simp [results, Try.results48, go_sem, q0, q1, q2]) rfl (does_fin HD.out x1 x2)
        · have HD : Hid (B.does 1 who to n = ((giveB (UInt8.ofNat to), 4, 8), B)) := hid (by unfold Bk.does; rw [if_neg (by omega), if_neg (by omega), if_neg (by simp [hi]), if_pos ⟨rfl, by omega⟩])
          clear hi
          have CB := hid (h)
          have CG := hid (grown_refl w (some q))
          have CC := hid fun W => given_any to W
          rw [byte_nat (by omega : to < 256)] at CC
          generalize giveB (UInt8.ofNat to) = SC at CC HD
          clear h
          go_wp2_with fail
          refine (CC.out _).mono ?_
          rintro e w3 ⟨rfl, hb3⟩
          obtain ⟨r3, hB3, hg3⟩ := does_mid _ CB.out CG.out (by simp) hb3
          clear hb3 CC CB CG
          have g0 := r3.c0
          have g1 := r3.c1
          have g2 := r3.c2
          have e0 := r3.fz 0
          have e1 := r3.fz 1
          have e2 := r3.fz 2
          go_wp2
          clear g0 g1 g2 e0 e1 e2
          have R := ((r3.set0 (.int .i64 4)).set1 (.int .i64 0)).set2 (.int .i64 8)
          have q0 := R.c0
          have q1 := R.c1
          have q2 := R.c2
          obtain ⟨x1, x2⟩ := does_set (r := w.heap.size + 1) (by omega) hB3 hg3 (by omega) (.int .i64 4) (.int .i64 0) (.int .i64 8)
          refine bodyPost_ret (v := .tuple #[.string SC, .agg #[.int .i64 4, .int .i64 0, .int .i64 8]]) (by simp [results, Try.results48, go_sem, q0, q1, q2]) rfl (does_fin HD.out x1 x2)
      · rw [Bool.not_eq_true] at hi
        have HD : Hid (B.does 1 who to n = ((giveB (UInt8.ofNat to), 7, 2), B)) := hid (by unfold Bk.does; rw [if_neg (by omega), if_neg (by omega), if_pos ⟨rfl, hi⟩])
        rw [hi] at ci
        clear hi
        by_cases t8 : to < 8
        · have ct := h.ci t8
          cases ti : B.is to with
          | true =>
            rw [ti] at ct
            clear ti
            have CB := hid (h)
            have CG := hid (grown_refl w (some q))
            have CC := hid fun W => given_any to W
            rw [byte_nat (by omega : to < 256)] at CC
            generalize giveB (UInt8.ofNat to) = SC at CC HD
            clear h
            go_wp2_with fail
            refine (CC.out _).mono ?_
            rintro e w3 ⟨rfl, hb3⟩
            obtain ⟨r3, hB3, hg3⟩ := does_mid _ CB.out CG.out (by simp) hb3
            clear hb3 CC CB CG
            have g0 := r3.c0
            have g1 := r3.c1
            have g2 := r3.c2
            have e0 := r3.fz 0
            have e1 := r3.fz 1
            have e2 := r3.fz 2
            go_wp2
            clear g0 g1 g2 e0 e1 e2
            have R := ((r3.set0 (.int .i64 7)).set1 (.int .i64 0)).set2 (.int .i64 2)
            have q0 := R.c0
            have q1 := R.c1
            have q2 := R.c2
            obtain ⟨x1, x2⟩ := does_set (r := w.heap.size + 1) (by omega) hB3 hg3 (by omega) (.int .i64 7) (.int .i64 0) (.int .i64 2)
            refine bodyPost_ret (v := .tuple #[.string SC, .agg #[.int .i64 7, .int .i64 0, .int .i64 2]]) (by simp [results, Try.results48, go_sem, q0, q1, q2]) rfl (does_fin HD.out x1 x2)
          | false =>
            rw [ti] at ct
            clear ti
            have CB := hid (h)
            have CG := hid (grown_refl w (some q))
            have CC := hid fun W => given_any to W
            rw [byte_nat (by omega : to < 256)] at CC
            generalize giveB (UInt8.ofNat to) = SC at CC HD
            clear h
            go_wp2_with fail
            refine (CC.out _).mono ?_
            rintro e w3 ⟨rfl, hb3⟩
            obtain ⟨r3, hB3, hg3⟩ := does_mid _ CB.out CG.out (by simp) hb3
            clear hb3 CC CB CG
            have g0 := r3.c0
            have g1 := r3.c1
            have g2 := r3.c2
            have e0 := r3.fz 0
            have e1 := r3.fz 1
            have e2 := r3.fz 2
            go_wp2
            clear g0 g1 g2 e0 e1 e2
            have R := ((r3.set0 (.int .i64 7)).set1 (.int .i64 0)).set2 (.int .i64 2)
            have q0 := R.c0
            have q1 := R.c1
            have q2 := R.c2
            obtain ⟨x1, x2⟩ := does_set (r := w.heap.size + 1) (by omega) hB3 hg3 (by omega) (.int .i64 7) (.int .i64 0) (.int .i64 2)
            refine bodyPost_ret (v := .tuple #[.string SC, .agg #[.int .i64 7, .int .i64 0, .int .i64 2]]) (by simp [results, Try.results48, go_sem, q0, q1, q2]) rfl (does_fin HD.out x1 x2)
        · skip
          have CB := hid (h)
          have CG := hid (grown_refl w (some q))
          have CC := hid fun W => given_any to W
          rw [byte_nat (by omega : to < 256)] at CC
          generalize giveB (UInt8.ofNat to) = SC at CC HD
          clear h
          go_wp2_with fail
          refine (CC.out _).mono ?_
          rintro e w3 ⟨rfl, hb3⟩
          obtain ⟨r3, hB3, hg3⟩ := does_mid _ CB.out CG.out (by simp) hb3
          clear hb3 CC CB CG
          have g0 := r3.c0
          have g1 := r3.c1
          have g2 := r3.c2
          have e0 := r3.fz 0
          have e1 := r3.fz 1
          have e2 := r3.fz 2
          go_wp2
          clear g0 g1 g2 e0 e1 e2
          have R := ((r3.set0 (.int .i64 7)).set1 (.int .i64 0)).set2 (.int .i64 2)
          have q0 := R.c0
          have q1 := R.c1
          have q2 := R.c2
          obtain ⟨x1, x2⟩ := does_set (r := w.heap.size + 1) (by omega) hB3 hg3 (by omega) (.int .i64 7) (.int .i64 0) (.int .i64 2)
          refine bodyPost_ret (v := .tuple #[.string SC, .agg #[.int .i64 7, .int .i64 0, .int .i64 2]]) (by simp [results, Try.results48, go_sem, q0, q1, q2]) rfl (does_fin HD.out x1 x2)
    · have w0 : what = 0 := by omega
      subst w0
      by_cases t8 : to < 8
      · have ct := h.ci t8
        cases ti : B.is to with
        | true =>
          have HD : Hid (B.does 0 who to n = ((mintB (UInt8.ofNat n) (UInt8.ofNat to), 8, 10), B)) := hid (by unfold Bk.does; rw [if_neg (by omega), if_neg (by omega), if_neg (by omega), if_neg (by omega), if_neg (by omega), if_neg (by omega), if_neg (by omega), if_pos ⟨t8, ti, .inl rfl⟩])
          rw [ti] at ct
          clear ti
          have CB := hid (h)
          have CG := hid (grown_refl w (some q))
          have CC := hid fun W => minted_any n to W
          rw [byte_nat (by omega : to < 256), byte_nat l4] at CC
          generalize mintB (UInt8.ofNat n) (UInt8.ofNat to) = SC at CC HD
          clear h
          go_wp2_with fail
          refine (CC.out _).mono ?_
          rintro e w3 ⟨rfl, hb3⟩
          obtain ⟨r3, hB3, hg3⟩ := does_mid _ CB.out CG.out (by simp) hb3
          clear hb3 CC CB CG
          have g0 := r3.c0
          have g1 := r3.c1
          have g2 := r3.c2
          have e0 := r3.fz 0
          have e1 := r3.fz 1
          have e2 := r3.fz 2
          go_wp2
          clear g0 g1 g2 e0 e1 e2
          have R := ((r3.set0 (.int .i64 8)).set1 (.int .i64 0)).set2 (.int .i64 10)
          have q0 := R.c0
          have q1 := R.c1
          have q2 := R.c2
          obtain ⟨x1, x2⟩ := does_set (r := w.heap.size + 1) (by omega) hB3 hg3 (by omega) (.int .i64 8) (.int .i64 0) (.int .i64 10)
          refine bodyPost_ret (v := .tuple #[.string SC, .agg #[.int .i64 8, .int .i64 0, .int .i64 10]]) (by simp [results, Try.results48, go_sem, q0, q1, q2]) rfl (does_fin HD.out x1 x2)
        | false =>
          have HD : Hid (B.does 0 who to n = ((mintB (UInt8.ofNat n) (UInt8.ofNat to), 0, 12), B.put to n)) := hid (by unfold Bk.does; rw [if_neg (by omega), if_neg (by omega), if_neg (by omega), if_neg (by omega), if_neg (by omega), if_neg (by omega), if_neg (by omega), if_neg (fun x => by have := x.2.1; rw [ti] at this; exact absurd this (by decide))])
          rw [ti] at ct
          clear ti
          have cm := h.cn t8
          have zt := z to
          have zm := z (8 + to)
          have CB := hid ((h.setI t8 true).setN t8 (n : Int))
          have CG := hid (grown_trans (grown_set w q to (.bool true)) (grown_set _ q (8 + to) (.int .i64 (n : Int))))
          have CC := hid fun W => minted_any n to W
          rw [byte_nat (by omega : to < 256), byte_nat l4] at CC
          generalize mintB (UInt8.ofNat n) (UInt8.ofNat to) = SC at CC HD
          clear h
          go_wp2_with fail
          refine (CC.out _).mono ?_
          rintro e w3 ⟨rfl, hb3⟩
          obtain ⟨r3, hB3, hg3⟩ := does_mid _ CB.out CG.out (by simp) hb3
          clear hb3 CC CB CG
          have g0 := r3.c0
          have g1 := r3.c1
          have g2 := r3.c2
          have e0 := r3.fz 0
          have e1 := r3.fz 1
          have e2 := r3.fz 2
          go_wp2
          clear g0 g1 g2 e0 e1 e2
          have R := ((r3.set0 (.int .i64 0)).set1 (.int .i64 0)).set2 (.int .i64 12)
          have q0 := R.c0
          have q1 := R.c1
          have q2 := R.c2
          obtain ⟨x1, x2⟩ := does_set (r := w.heap.size + 1) (by omega) hB3 hg3 (by omega) (.int .i64 0) (.int .i64 0) (.int .i64 12)
          refine bodyPost_ret (v := .tuple #[.string SC, .agg #[.int .i64 0, .int .i64 0, .int .i64 12]]) (by simp [results, Try.results48, go_sem, q0, q1, q2]) rfl (does_fin HD.out x1 x2)
      · have HD : Hid (B.does 0 who to n = ((mintB (UInt8.ofNat n) (UInt8.ofNat to), 4, 10), B)) := hid (by unfold Bk.does; rw [if_neg (by omega), if_neg (by omega), if_neg (by omega), if_neg (by omega), if_neg (by omega), if_neg (by omega), if_pos (by omega)])
        have CB := hid (h)
        have CG := hid (grown_refl w (some q))
        have CC := hid fun W => minted_any n to W
        rw [byte_nat (by omega : to < 256), byte_nat l4] at CC
        generalize mintB (UInt8.ofNat n) (UInt8.ofNat to) = SC at CC HD
        clear h
        go_wp2_with fail
        refine (CC.out _).mono ?_
        rintro e w3 ⟨rfl, hb3⟩
        obtain ⟨r3, hB3, hg3⟩ := does_mid _ CB.out CG.out (by simp) hb3
        clear hb3 CC CB CG
        have g0 := r3.c0
        have g1 := r3.c1
        have g2 := r3.c2
        have e0 := r3.fz 0
        have e1 := r3.fz 1
        have e2 := r3.fz 2
        go_wp2
        clear g0 g1 g2 e0 e1 e2
        have R := ((r3.set0 (.int .i64 4)).set1 (.int .i64 0)).set2 (.int .i64 10)
        have q0 := R.c0
        have q1 := R.c1
        have q2 := R.c2
        obtain ⟨x1, x2⟩ := does_set (r := w.heap.size + 1) (by omega) hB3 hg3 (by omega) (.int .i64 4) (.int .i64 0) (.int .i64 10)
        refine bodyPost_ret (v := .tuple #[.string SC, .agg #[.int .i64 4, .int .i64 0, .int .i64 10]]) (by simp [results, Try.results48, go_sem, q0, q1, q2]) rfl (does_fin HD.out x1 x2)
end Go.Proofs.Ytjamgmbdilkbcaa

/- Kept: holds, opened. -/
namespace Go.Proofs.Ytjamgmbdilkbcaa
open Go.RowKit

set_option maxRecDepth 100000 in
set_option maxHeartbeats 1000000 in
theorem holds_any (q r : Nat) (A : Nat → Bool × Int) (B : Bk) (who : Nat) (w : World) (hl : Lg w q bankM A) (hb : BkR w r B) (hA : HoldsB A B) (hw : who < 8) :
    Calls Try.prog 20 #[.pointer (some ⟨q, 0, none⟩), .pointer (some ⟨r, 0, none⟩), .int .i64 who] w fun e w' => e = .returned (.bool true) ∧ Below w.heap.size w w' := by
  have C := hid (amount_any q bankM A who 1 w hl)
  have e1 : ledAmount bankM A who 1 = if B.is who = true then (B.n who, 0) else (0, 7) := by
    unfold ledAmount
    rw [if_neg (by show ¬ ((1 : Int) < 1 ∨ (1 : Int) < 1); omega), amount_book hA hw]
  rw [e1] at C
  have ci := hb.ci hw
  have cn := hb.cn hw
  have hr := hb.lt
  clear hl hb hA e1
  cases hi : B.is who with
  | true =>
    rw [hi] at C ci
    simp only [if_true] at C
    generalize B.n who = N at *
    clear hi
    go_enter Try.func20, Try.ntmps20
    go_wp2_with fail
    refine C.out.mono ?_
    rintro e w1 ⟨rfl, hb1⟩
    have d1 := (hb1.cell (p := ⟨r, who, none⟩) hr).trans ci
    have d2 := (hb1.cell (p := ⟨r, 8 + who, none⟩) hr).trans cn
    clear C ci cn
    go_wp2
    go_ret
    exact ⟨rfl, hb1⟩
  | false =>
    rw [hi] at C ci
    simp only [Bool.false_eq_true, if_false] at C
    clear hi cn
    go_enter Try.func20, Try.ntmps20
    go_wp2_with fail
    refine C.out.mono ?_
    rintro e w1 ⟨rfl, hb1⟩
    have d1 := (hb1.cell (p := ⟨r, who, none⟩) hr).trans ci
    clear C ci
    go_wp2
    go_ret
    exact ⟨rfl, hb1⟩

/-- a deal, out of raw numbers. -/
structure Dl where
  what : Int
  who : Int
  to : Int
  n : Int
def pk (c n : Int) : Nat := (Ln.pick c n).toNat
theorem pk_is {c n : Int} (hn : 1 ≤ n) : Ln.pick c n = (pk c n : Int) ∧ (pk c n : Int) < n := by
  unfold pk Ln.pick
  split
  · have h1 := Int.emod_nonneg (-(c + 1)) (show n ≠ 0 by omega)
    have h2 := Int.emod_lt_of_pos (-(c + 1)) (show 0 < n by omega)
    omega
  · have h1 := Int.emod_nonneg c (show n ≠ 0 by omega)
    have h2 := Int.emod_lt_of_pos c (show 0 < n by omega)
    omega
/-- the book behind k deals. -/
def booked (ds : List Dl) : Nat → Bk
  | 0 => Bk.none
  | k + 1 => ((booked ds k).does (pk (ds.getD k ⟨0, 0, 0, 0⟩).what 3) (pk (ds.getD k ⟨0, 0, 0, 0⟩).who 8) (pk (ds.getD k ⟨0, 0, 0, 0⟩).to 10) (pk (ds.getD k ⟨0, 0, 0, 0⟩).n 256)).2
/-- deals in memory. -/
def DealsR (w : World) (base : Nat) (v : Value) (ds : List Dl) : Prop :=
  ∃ ao cap b off, v = .slice ao ds.length cap ∧ (0 < ds.length → ao = some ⟨b, off, none⟩ ∧ b < base) ∧ ∀ j, j < ds.length →
    w.cell? ⟨b, off + j * 4, none⟩ = some (.int .i64 (ds.getD j ⟨0, 0, 0, 0⟩).what) ∧ w.cell? ⟨b, off + j * 4 + 1, none⟩ = some (.int .i64 (ds.getD j ⟨0, 0, 0, 0⟩).who) ∧
    w.cell? ⟨b, off + j * 4 + 2, none⟩ = some (.int .i64 (ds.getD j ⟨0, 0, 0, 0⟩).to) ∧ w.cell? ⟨b, off + j * 4 + 3, none⟩ = some (.int .i64 (ds.getD j ⟨0, 0, 0, 0⟩).n) ∧
    I64 (ds.getD j ⟨0, 0, 0, 0⟩).what ∧ I64 (ds.getD j ⟨0, 0, 0, 0⟩).who ∧ I64 (ds.getD j ⟨0, 0, 0, 0⟩).to ∧ I64 (ds.getD j ⟨0, 0, 0, 0⟩).n

theorem noHeld_row : noHeld = rowOf (fun _ => (false, 0)) (List.range 48) := by kernel_rfl
theorem bank_chk {e p : Int} (h : ChkSays bank e p) : e = 0 ∧ p = 0 := by
  unfold ChkSays at h
  rw [bank_md, bank_dec0] at h
  rcases h with ⟨h, _⟩ | ⟨_, h⟩
  · exact absurd rfl h
  · exact FlowSays.one h (.inr ⟨rfl, rfl, bank_good⟩)
/-- the bank's ledger. -/
theorem bank_new {w w' : World} {r : Ending} (h : NewOut w w' bank r) : ∃ q, r = .returned (.tuple #[.pointer (some ⟨q, 0, none⟩), .int .i64 0]) ∧ w.heap.size ≤ q ∧ Lg w' q bankM (fun _ => (false, 0)) ∧ Below w.heap.size w w' := by
  rcases h with ⟨e, p, h0, h1, h2, h3⟩ | ⟨p, q, mk, mv, h1, h2, h3, h4, h5, _, _, h6⟩
  · exact absurd (bank_chk h1).1 h0
  · refine ⟨q, h2, h3, ⟨mk, mv, noHeld.toArray, ?_, ?_, ?_⟩, h6⟩
    · have := h4.b
      simpa using this
    · rw [noHeld_row]; exact rowOf_is _
    · rw [bank_md] at h5; exact h5

theorem Lg.low {w w' : World} {q : Nat} {m : Pu.Md} {A : Nat → Bool × Int} (h : Lg w q m A) {r : Nat} (hg : w.grownBy w' (some r)) (hr : q < r) : Lg w' q m A := by
  obtain ⟨mk, mv, Hs, h1, h2, h3⟩ := h.ex
  have hq : q < w.heap.size := (Array.getElem?_eq_some_iff.1 h1).1
  exact ⟨mk, mv, Hs, (hg.block q hq (by simp; omega)).trans h1, h2, h3.below ⟨hg.os, hg.tape, hg.output, hg.size, fun k hk => hg.block k (by omega) (by simp; omega)⟩⟩
end Go.Proofs.Ytjamgmbdilkbcaa
