import Derived.Test.YtjamgmbdilkbcaaGreatLotLedgers22
/- A frame's take, held, keep; the accounts' look, set, Amount. -/
namespace Go.Proofs.YtjamgmbdilkbcaaGreat
open Go.RowKit Mc

def MTake (w w' : World) (r : Nat) (mk mv : Value) (M : Mc) (n : Int) (e : Ending) : Prop := e = .returned (.int .i64 n) /\ MR w' r mk mv M /\ w.grownBy w' (some r)
theorem MTake.alike {w w1 w' : World} {r : Nat} {mk mv : Value} {M : Mc} {n : Int} {e : Ending} (h : MTake w w1 r mk mv M n e) (ha : Alike w1 w') : MTake w w' r mk mv M n e :=
  ⟨h.1, h.2.1.alike ha.1, grown_alike h.2.2 ha⟩
set_option maxRecDepth 100000 in
set_option maxHeartbeats 1000000 in
theorem mtake_any (r d : Nat) (mk mv : Value) (M : Mc) (w : World) (h : MR w r mk mv M) (hd : d < 8) :
    Calls Tryz.prog 136 #[.pointer (some ⟨r, fr d, none⟩)] w fun e w' => MTake w w' r mk mv (M.pop d) (M.top d) e := by
  have hh := h.hh d hd
  obtain ⟨o, ho⟩ : ∃ o, o = fr d := ⟨_, rfl⟩
  have c2 := h.ci (isI_fr (i := 2) hd (by omega) (by omega))
  have z2 := h.fz (fr d + 2)
  have e2 : M.ints (fr d + 2) = M.hgt d := rfl
  rw [e2, <- ho] at c2
  rw [<- ho] at z2
  by_cases h1 : M.hgt d < 1
  · have e : M.pop d = M := by unfold Mc.pop; rw [if_pos h1]
    have e' : M.top d = 0 := by unfold Mc.top; rw [if_pos h1]
    rw [e, e']
    have FIN : Hid (MTake w w r mk mv M 0 (.returned (.int .i64 0))) := ⟨rfl, h, grown_refl _ _⟩
    have hk : M.hgt d = 0 := by omega
    rw [hk] at c2
    rw [<- ho]
    clear h hh e e2 hk h1 ho e'
    go_enter Tryz.func136, Tryz.ntmps136
    go_wp2
    go_ret
    exact FIN.out
  · obtain ⟨k, hk⟩ : ∃ k : Nat, M.hgt d = (k : Int) + 1 := ⟨(M.hgt d - 1).toNat, by omega⟩
    have e : M.pop d = M.setI (fr d + 2) k := by unfold Mc.pop; rw [if_neg h1, hk]; congr 1; omega
    have e' : M.top d = M.ints (fr d + 3 + k) := by unfold Mc.top Mc.stk; rw [if_neg h1, hk]; congr 2; omega
    rw [e, e']
    have hk16 : k < 16 := by omega
    have hs := h.setI (i := fr d + 2) (isI_fr hd (by omega) (by omega)) (k : Int) (fun _ _ _ => by omega)
    have cs := hs.ci (isI_fr (i := 3 + k) hd (by omega) (by omega))
    rw [<- Nat.add_assoc] at cs
    have e3 : (M.setI (fr d + 2) k).ints (fr d + 3 + k) = M.ints (fr d + 3 + k) := by unfold Mc.setI; simp only; rw [if_neg (by omega)]
    have d2 := hs.ci (isI_fr (i := 2) hd (by omega) (by omega))
    have e4 : (M.setI (fr d + 2) k).ints (fr d + 2) = k := by unfold Mc.setI; simp
    rw [e3] at cs
    rw [e4] at d2
    have FIN : Hid (MTake w (w.setCell ⟨r, fr d + 2, none⟩ (.int .i64 k)) r mk mv (M.setI (fr d + 2) k) (M.ints (fr d + 3 + k)) (.returned (.int .i64 (M.ints (fr d + 3 + k))))) := ⟨rfl, hs, grown_set w r _ _⟩
    rw [hk] at c2
    have wk : wrap64 ((k : Int) + 1 - 1) = k := by unfold wrap64; omega
    obtain ⟨ML, hML⟩ : ∃ ML, ML = M.setI (fr d + 2) k := ⟨_, rfl⟩
    obtain ⟨V, hV⟩ : ∃ V, V = M.ints (fr d + 3 + k) := ⟨_, rfl⟩
    rw [<- hML, <- hV] at FIN ⊢
    rw [<- hV] at cs
    rw [<- ho] at cs d2 FIN ⊢
    clear h hs hh hML hV e e2 e3 e4 hk h1 ho e'
    go_enter Tryz.func136, Tryz.ntmps136
    go_wp2
    go_quiet (fail)
    go_wp2
    go_ret
    exact FIN.out.alike ⟨rfl, rfl, rfl, rfl⟩
set_option maxRecDepth 100000 in
set_option maxHeartbeats 1000000 in
theorem mheld_any (r d : Nat) (p : Int) (mk mv : Value) (M : Mc) (w : World) (h : MR w r mk mv M) (hd : d < 8) :
    Calls Tryz.prog 140 #[.pointer (some ⟨r, fr d, none⟩), .int .i64 p] w fun e w' => MTake w w' r mk mv M (M.heldAt d p) e := by
  obtain ⟨o, ho⟩ : ∃ o, o = fr d := ⟨_, rfl⟩
  unfold Mc.heldAt
  by_cases hp : p < 0 \/ 8 <= p
  · rw [if_pos hp]
    have FIN : Hid (MTake w w r mk mv M 0 (.returned (.int .i64 0))) := ⟨rfl, h, grown_refl _ _⟩
    rw [<- ho]
    clear h ho
    rcases hp with hp | hp
    · go_enter Tryz.func140, Tryz.ntmps140
      go_wp2
      go_ret
      exact FIN.out
    · have hp0 : ¬ p < 0 := by omega
      go_enter Tryz.func140, Tryz.ntmps140
      go_wp2
      go_ret
      exact FIN.out
  · rw [if_neg hp]
    obtain ⟨k, rfl⟩ : ∃ k : Nat, p = k := ⟨p.toNat, by omega⟩
    have hk : k < 8 := by omega
    have cs := h.ci (isI_fr (i := 19 + k) hd (by omega) (by omega))
    rw [<- Nat.add_assoc] at cs
    have e : M.plc d (k : Int).toNat = M.ints (fr d + 19 + k) := by unfold Mc.plc; rw [show (k : Int).toNat = k from by omega]
    rw [e]
    have FIN : Hid (MTake w w r mk mv M (M.ints (fr d + 19 + k)) (.returned (.int .i64 (M.ints (fr d + 19 + k))))) := ⟨rfl, h, grown_refl _ _⟩
    obtain ⟨V, hV⟩ : ∃ V, V = M.ints (fr d + 19 + k) := ⟨_, rfl⟩
    rw [<- hV] at FIN cs ⊢
    rw [<- ho] at cs ⊢
    clear h hV ho e hp
    go_enter Tryz.func140, Tryz.ntmps140
    go_wp2
    go_ret
    exact FIN.out
set_option maxRecDepth 100000 in
set_option maxHeartbeats 1000000 in
theorem mkeep_any (r d : Nat) (p n : Int) (mk mv : Value) (M : Mc) (w : World) (h : MR w r mk mv M) (hd : d < 8) :
    Calls Tryz.prog 137 #[.pointer (some ⟨r, fr d, none⟩), .int .i64 p, .int .i64 n] w fun e w' => MDone w w' r mk mv (M.keep d p n) e := by
  obtain ⟨o, ho⟩ : ∃ o, o = fr d := ⟨_, rfl⟩
  unfold Mc.keep
  by_cases hp : p < 0 \/ 8 <= p
  · rw [if_pos hp]
    have FIN : Hid (MDone w w r mk mv M (.returned (.tuple #[]))) := ⟨rfl, h, grown_refl _ _⟩
    rw [<- ho]
    clear h ho
    rcases hp with hp | hp
    · go_enter Tryz.func137, Tryz.ntmps137
      go_wp2
      refine bodyPost_ret (results_none rfl _ _ _) rfl ?_
      exact FIN.out
    · have hp0 : ¬ p < 0 := by omega
      go_enter Tryz.func137, Tryz.ntmps137
      go_wp2
      refine bodyPost_ret (results_none rfl _ _ _) rfl ?_
      exact FIN.out
  · rw [if_neg hp]
    obtain ⟨k, rfl⟩ : ∃ k : Nat, p = k := ⟨p.toNat, by omega⟩
    have hk : k < 8 := by omega
    rw [show (k : Int).toNat = k from by omega]
    have hI : isI (fr d + 19 + k) := by have := isI_fr (i := 19 + k) hd (by omega) (by omega); rwa [<- Nat.add_assoc] at this
    have cs := h.ci hI
    have zs := h.fz (fr d + 19 + k)
    have h2 := h.setI hI n (fun d' hd' he => by unfold fr at he; omega)
    have FIN : Hid (MDone w (w.setCell ⟨r, fr d + 19 + k, none⟩ (.int .i64 n)) r mk mv (M.setI (fr d + 19 + k) n) (.returned (.tuple #[]))) := ⟨rfl, h2, grown_set w r _ _⟩
    obtain ⟨ML, hML⟩ : ∃ ML, ML = M.setI (fr d + 19 + k) n := ⟨_, rfl⟩
    rw [<- hML] at FIN ⊢
    rw [<- ho] at cs zs FIN ⊢
    clear h h2 hML ho hp hI
    go_enter Tryz.func137, Tryz.ntmps137
    go_wp2
    go_end0
    exact FIN.out
theorem mtruth_any (b : Bool) (w : World) : Calls Tryz.prog 138 #[.bool b] w fun e w' => e = .returned (.int .i64 (if b = true then 1 else 0)) /\ w' = w := by
  cases b <;>
  · go_enter Tryz.func138, Tryz.ntmps138
    go_wp2
    go_ret
    simp
def isAcc (n : Int) : Bool := decide (0 <= n /\ n < 8)
def isKd (n : Int) : Bool := decide (1 <= n /\ n <= 6)
theorem misAcc_any (n : Int) (w : World) : Calls Tryz.prog 114 #[.int .i64 n] w fun e w' => e = .returned (.bool (isAcc n)) /\ w' = w := by
  unfold isAcc
  go_enter Tryz.func114, Tryz.ntmps114
  go_wp2
  all_goals (go_ret; simp; try omega)
theorem misKd_any (n : Int) (w : World) : Calls Tryz.prog 115 #[.int .i64 n] w fun e w' => e = .returned (.bool (isKd n)) /\ w' = w := by
  unfold isKd
  go_enter Tryz.func115, Tryz.ntmps115
  go_wp2
  all_goals (go_ret; simp; try omega)
def AcR (w : World) (b o : Nat) (A : Nat -> Bool × Int) : Prop := ∀ j, j < 48 -> w.cell? ⟨b, o + 2 * j, none⟩ = some (.bool (A j).1) /\ w.cell? ⟨b, o + 2 * j + 1, none⟩ = some (.int .i64 (A j).2)
def at_ (who kind : Int) : Nat := (who * 6 + kind - 1).toNat
def lookS (A : Nat -> Bool × Int) (who kind : Int) : (Bool × Int) × Int := if isAcc who = true /\ isKd kind = true then (A (at_ who kind), 0) else ((false, 0), 4)
set_option maxRecDepth 100000 in
set_option maxHeartbeats 1000000 in
theorem mlook_any (b o : Nat) (A : Nat -> Bool × Int) (who kind : Int) (w : World) (h : AcR w b o A) :
    Calls Tryz.prog 87 #[.pointer (some ⟨b, o, none⟩), .int .i64 who, .int .i64 kind] w fun e w' => e = .returned (.tuple #[.agg #[.bool (lookS A who kind).1.1, .int .i64 (lookS A who kind).1.2], .int .i64 (lookS A who kind).2]) /\ Below w.heap.size w w' := by
  have al := (Below.refl w.heap.size w).alloc (Nat.le_refl _) (.cells #[.bool false, .int .i64 0] 102)
  have rb : F2 (w.alloc (.cells #[.bool false, .int .i64 0] 102)) w.heap.size 102 (.bool false) (.int .i64 0) := heap_alloc_new w _
  have C1 := hid fun W => misAcc_any who W
  have C2 := hid fun W => misKd_any kind W
  by_cases hok : isAcc who = true /\ isKd kind = true
  · have e : lookS A who kind = (A (at_ who kind), 0) := by unfold lookS; rw [if_pos hok]
    obtain ⟨u, rfl⟩ : ∃ u : Nat, who = u := ⟨who.toNat, by have := hok.1; unfold isAcc at this; simp at this; omega⟩
    obtain ⟨k, rfl⟩ : ∃ k : Nat, kind = (k : Int) + 1 := ⟨(kind - 1).toNat, by have := hok.2; unfold isKd at this; simp at this; omega⟩
    have hu : u < 8 := by have := hok.1; unfold isAcc at this; simp at this; omega
    have hk : k < 6 := by have := hok.2; unfold isKd at this; simp at this; omega
    have hat : at_ (u : Int) ((k : Int) + 1) = u * 6 + k := by unfold at_; omega
    rw [e, hat]
    obtain ⟨g1, g2⟩ := h (u * 6 + k) (by omega)
    have hb : b < w.heap.size := World.block_lt_of_cell? w ⟨b, _, none⟩ g1
    have c1 := (al.cell (p := ⟨b, o + 2 * (u * 6 + k), none⟩) hb).trans g1
    have c2 := (al.cell (p := ⟨b, o + 2 * (u * 6 + k) + 1, none⟩) hb).trans g2
    rw [show o + 2 * (u * 6 + k) = o + u * 12 + k * 2 from by omega] at c1 c2
    obtain ⟨hok1, hok2⟩ := hok
    rw [hok1] at C1
    rw [hok2] at C2
    generalize A (u * 6 + k) = a at *
    obtain ⟨ab, an⟩ := a
    simp only at c1 c2 ⊢
    have wk : wrap64 ((k : Int) + 1 - 1) = k := by unfold wrap64; omega
    clear h hok1 hok2 e hat g1 g2
    go_enter Tryz.func87, Tryz.ntmps87
    go_wp2_with fail
    refine (C1.out _).mono ?_
    rintro e w1 ⟨rfl, hw1⟩
    rw [hw1]
    go_wp2_with fail
    refine (C2.out _).mono ?_
    rintro e w2 ⟨rfl, hw2⟩
    rw [hw2]
    go_wp2_with fail
    refine bodyPost_ret (v := .tuple #[.agg #[.bool ab, .int .i64 an], .int .i64 0]) (by simp [results, Tryz.results87, go_sem]) rfl ⟨rfl, (Below.refl w.heap.size w).alloc (Nat.le_refl _) _⟩
  · have e : lookS A who kind = ((false, 0), 4) := by unfold lookS; rw [if_neg hok]
    rw [e]
    simp only
    have FIN : Hid (Below w.heap.size w (w.alloc (.cells #[.bool false, .int .i64 0] 102))) := al
    have hcase : isAcc who = false \/ (isAcc who = true /\ isKd kind = false) := by
      cases h1 : isAcc who with
      | false => exact .inl rfl
      | true => right; refine ⟨rfl, ?_⟩; cases h2 : isKd kind with
        | false => rfl
        | true => exact absurd ⟨h1, h2⟩ hok
    clear h e hok al rb
    rcases hcase with h1 | ⟨h1, h2⟩
    · rw [h1] at C1
      go_enter Tryz.func87, Tryz.ntmps87
      go_wp2_with fail
      refine (C1.out _).mono ?_
      rintro e w1 ⟨rfl, hw1⟩
      rw [hw1]
      go_wp2_with fail
      refine bodyPost_ret (v := .tuple #[.agg #[.bool false, .int .i64 0], .int .i64 4]) (by simp [results, Tryz.results87, go_sem]) rfl ⟨rfl, FIN.out⟩
    · rw [h1] at C1
      rw [h2] at C2
      go_enter Tryz.func87, Tryz.ntmps87
      go_wp2_with fail
      refine (C1.out _).mono ?_
      rintro e w1 ⟨rfl, hw1⟩
      rw [hw1]
      go_wp2_with fail
      refine (C2.out _).mono ?_
      rintro e w2 ⟨rfl, hw2⟩
      rw [hw2]
      go_wp2_with fail
      refine bodyPost_ret (v := .tuple #[.agg #[.bool false, .int .i64 0], .int .i64 4]) (by simp [results, Tryz.results87, go_sem]) rfl ⟨rfl, FIN.out⟩
def amountS (A : Nat -> Bool × Int) (who kind : Int) : Int × Int :=
  if (lookS A who kind).2 ≠ 0 then (0, (lookS A who kind).2) else if (lookS A who kind).1.1 = true then ((lookS A who kind).1.2, 0) else (0, 7)
set_option maxRecDepth 100000 in
set_option maxHeartbeats 1000000 in
theorem mamount_any (b o : Nat) (A : Nat -> Bool × Int) (who kind : Int) (w : World) (h : AcR w b o A) :
    Calls Tryz.prog 63 #[.pointer (some ⟨b, o, none⟩), .int .i64 who, .int .i64 kind] w fun e w' => e = .returned (.tuple #[.int .i64 (amountS A who kind).1, .int .i64 (amountS A who kind).2]) /\ Below w.heap.size w w' := by
  unfold amountS
  have C := hid (mlook_any b o A who kind w h)
  have he : (lookS A who kind).2 = 0 \/ (lookS A who kind).2 = 4 := by unfold lookS; split <;> simp
  generalize lookS A who kind = L at *
  obtain ⟨⟨lb, ln⟩, le⟩ := L
  simp only at C he ⊢
  go_enter Tryz.func63, Tryz.ntmps63
  go_wp2_with fail
  refine C.out.mono ?_
  rintro e w1 ⟨rfl, hb1⟩
  have hb2 := hb1.trans (((Below.refl w1.heap.size w1).alloc (Nat.le_refl _) (.cells #[.bool lb, .int .i64 ln] 102)).mono hb1.size)
  have FIN := hid hb2
  clear hb1 hb2 C h
  rcases he with rfl | rfl
  · cases lb
    · go_wp2
      go_ret2
      exact ⟨by simp, FIN.out⟩
    · go_wp2
      go_ret2
      exact ⟨by simp, FIN.out⟩
  · go_wp2
    go_ret2
    exact ⟨by simp, FIN.out⟩
def setOk (who kind : Int) : Prop := isAcc who = true /\ isKd kind = true
set_option maxRecDepth 100000 in
set_option maxHeartbeats 1000000 in
theorem mset_any (b o : Nat) (A : Nat -> Bool × Int) (who kind : Int) (sb : Bool) (sn : Int) (w : World) (h : AcR w b o A) (hz : ∀ i, w.frozen? ⟨b, i, none⟩ = false) (hok : setOk who kind) :
    Calls Tryz.prog 139 #[.pointer (some ⟨b, o, none⟩), .int .i64 who, .int .i64 kind, .agg #[.bool sb, .int .i64 sn]] w fun e w' => e = .returned (.tuple #[]) /\
      ∃ W, Below w.heap.size w W /\ w'.heap = ((W.setCell ⟨b, o + 2 * at_ who kind, none⟩ (.bool sb)).setCell ⟨b, o + 2 * at_ who kind + 1, none⟩ (.int .i64 sn)).heap /\ w'.os = w.os /\ w'.tape = w.tape /\ w'.output = w.output := by
  have al := (Below.refl w.heap.size w).alloc (Nat.le_refl _) (.cells #[.bool sb, .int .i64 sn] 102)
  obtain ⟨u, rfl⟩ : ∃ u : Nat, who = u := ⟨who.toNat, by have := hok.1; unfold isAcc at this; simp at this; omega⟩
  obtain ⟨k, rfl⟩ : ∃ k : Nat, kind = (k : Int) + 1 := ⟨(kind - 1).toNat, by have := hok.2; unfold isKd at this; simp at this; omega⟩
  have hu : u < 8 := by have := hok.1; unfold isAcc at this; simp at this; omega
  have hk : k < 6 := by have := hok.2; unfold isKd at this; simp at this; omega
  have hat : at_ (u : Int) ((k : Int) + 1) = u * 6 + k := by unfold at_; omega
  rw [hat]
  obtain ⟨g1, g2⟩ := h (u * 6 + k) (by omega)
  have hb : b < w.heap.size := World.block_lt_of_cell? w ⟨b, _, none⟩ g1
  have c1 := (al.cell (p := ⟨b, o + 2 * (u * 6 + k), none⟩) hb).trans g1
  have c2 := (al.cell (p := ⟨b, o + 2 * (u * 6 + k) + 1, none⟩) hb).trans g2
  have z1 := (al.frozen (p := ⟨b, o + u * 12 + k * 2, none⟩) hb).trans (hz _)
  have z2 := (al.frozen (p := ⟨b, o + u * 12 + k * 2 + 1, none⟩) hb).trans (hz _)
  rw [show o + 2 * (u * 6 + k) = o + u * 12 + k * 2 from by omega] at c1 c2 ⊢
  have C1 := hid fun W => misAcc_any (u : Int) W
  have C2 := hid fun W => misKd_any ((k : Int) + 1) W
  rw [hok.1] at C1
  rw [hok.2] at C2
  have wk : wrap64 ((k : Int) + 1 - 1) = k := by unfold wrap64; omega
  have hne : b ≠ w.heap.size := by omega
  have FIN : Hid (Below w.heap.size w (w.alloc (.cells #[.bool sb, .int .i64 sn] 102))) := al
  clear h hat g1 g2 hok hz al
  go_enter Tryz.func139, Tryz.ntmps139
  go_wp2_with fail
  refine (C1.out _).mono ?_
  rintro e w1 ⟨rfl, hw1⟩
  rw [hw1]
  go_wp2_with fail
  refine (C2.out _).mono ?_
  rintro e w2 ⟨rfl, hw2⟩
  rw [hw2]
  have hu8 : (u : Int) < 8 := by omega
  have hk6 : (k : Int) < 6 := by omega
  have rb : F2 (w.alloc (.cells #[.bool sb, .int .i64 sn] 102)) w.heap.size 102 (.bool sb) (.int .i64 sn) := heap_alloc_new w _
  have r0 := rb.c0
  have r1 := rb.c1
  clear rb
  generalize w.alloc (.cells #[.bool sb, .int .i64 sn] 102) = W0 at *
  have x1 : W0.drew.cell? ⟨b, o + u * 12 + k * 2, none⟩ = some (.bool (A (u * 6 + k)).1) := c1
  have x2 : W0.drew.cell? ⟨b, o + u * 12 + k * 2 + 1, none⟩ = some (.int .i64 (A (u * 6 + k)).2) := c2
  have y1 : W0.drew.frozen? ⟨b, o + u * 12 + k * 2, none⟩ = false := z1
  have y2 : W0.drew.frozen? ⟨b, o + u * 12 + k * 2 + 1, none⟩ = false := z2
  go_wp2_with fail
  go_region
  go_wp2
  go_end0
  exact ⟨rfl, _, FIN.out, rfl, FIN.out.os, FIN.out.tape, FIN.out.output⟩
end Go.Proofs.YtjamgmbdilkbcaaGreat
