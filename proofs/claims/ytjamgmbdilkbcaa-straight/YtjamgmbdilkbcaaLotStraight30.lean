import Derived.Test.YtjamgmbdilkbcaaLotStraight20
import Derived.Test.YtjamgmbdilkbcaaLotStraight29
import Derived.Test.YtjamgmbdilkbcaaLotStraight08
import Derived.ProofKit
import Derived.OpenShut
import Derived.Deep.SlicePairs
import Derived.Lib.SmallJoins
/- Straight, walked. -/
namespace Go.Proofs.Ytjamgmbdilkbcaa
open Go.RowKit

theorem Ln.doesN_stop (tape : List Int) (k : Nat) (h : (Ln.doesN tape k).well = false) : ∀ j, Ln.doesN tape (k + j) = Ln.doesN tape k
  | 0 => rfl
  | j + 1 => by
    have ih := doesN_stop tape k h j
    show (if (Ln.doesN tape (k + j)).well = true then Ln.does (tape.getD (k + j) 0) (Ln.doesN tape (k + j)) else Ln.doesN tape (k + j)) = _
    rw [if_neg (by rw [ih, h]; simp), ih]

def lit : ByteArray := ⟨#[67, 70, 4, 0, 1, 2, 3, 1, 4, 1, 2, 3, 4, 0, 2, 0, 1]⟩
theorem lit_bytes (c : List (Int × Int)) : lit ++ one8 c.length ++ cs c = ⟨(Pu.wMd (Ln.md c)).toArray⟩ := by
  apply ByteArray.ext
  apply Array.toList_inj.1
  simp [lit, one8, cs, ByteArray.data_append, Pu.wMd, Ln.md, Ln.fn, Pu.wFns, Pu.wFn, Pu.wList]
  decide

/-- what the law wants. -/
def wantS (l : Ln.L) : Int := if l.well = true ∧ Ln.left l = true then 0 else 3

theorem says_straight {tape : List Int} {cl : Bool} {e p : Int} {b : ByteArray} (hb : b = ⟨(Pu.wMd (Ln.md (Ln.codeOf (Ln.line tape cl)))).toArray⟩) (h : ChkSays b e p) : e = wantS (Ln.line tape cl) ∧ p = 0 := by
  have hd := Ln.line_decode tape cl
  have hs := Ln.line_sound tape cl
  rw [← hb] at hd
  unfold ChkSays at h
  rw [hd] at h
  simp only [not_true_eq_false, false_and, true_and, false_or] at h
  have h0 : (Ln.md (Ln.codeOf (Ln.line tape cl))).funcs.getD 0 ⟨[], [], [], []⟩ = Ln.fn (Ln.codeOf (Ln.line tape cl)) := rfl
  have hl : (Ln.md (Ln.codeOf (Ln.line tape cl))).funcs.length = 1 := rfl
  unfold wantS
  rcases h with ⟨rfl, i, rfl, h1, h2, h3⟩ | ⟨rfl, rfl, h1⟩
  · have hi : i = 0 := by omega
    subst hi
    rw [h0, hs] at h2
    rw [if_neg h2]
    exact ⟨rfl, rfl⟩
  · have := h1 0 (by omega)
    rw [h0, hs] at this
    rw [if_pos this]
    exact ⟨rfl, rfl⟩

def full4 (k : Nat) : List Bool := List.replicate k true ++ List.replicate (6 - k) false
theorem full4_succ (k : Nat) (h : k < 4) : (full4 k).set k true = full4 (k + 1) := by
  have : k = 0 ∨ k = 1 ∨ k = 2 ∨ k = 3 := by omega
  rcases this with rfl | rfl | rfl | rfl <;> rfl

theorem new_says {w w' : World} {b : ByteArray} {r : Ending} {WS : Int} (h : NewOut w w' b r) (hs : ∀ e p, ChkSays b e p → e = WS ∧ p = 0) :
    Below w.heap.size w w' ∧ ((WS ≠ 0 ∧ r = .returned (.tuple #[.pointer none, .int .i64 WS])) ∨ ∃ q, WS = 0 ∧ r = .returned (.tuple #[.pointer (some ⟨q, 0, none⟩), .int .i64 0])) := by
  rcases h with ⟨e, p, h0, h1, h2, h3⟩ | ⟨p, q, mk, mv, h1, h2, _, _, _, _, _, h3⟩
  · obtain ⟨rfl, _⟩ := hs e p h1
    exact ⟨h3, .inl ⟨h0, h2⟩⟩
  · have := (hs 0 p h1).1
    exact ⟨h3, .inr ⟨q, this.symm, h2⟩⟩

def BQ (W0 : World) (q : Nat) (s : ByteArray) (n : Int) (w' : World) : Prop := Below W0.heap.size W0 w' ∧ w'.cell? ⟨q, 0, none⟩ = some (.string s) ∧ w'.cell? ⟨q, 1, none⟩ = some (.int .i64 n)
theorem BQ.step {W0 w1 w2 : World} {q : Nat} {s : ByteArray} {n : Int} (hq : q < W0.heap.size) (h : BQ W0 q s n w1) (hb : Below w1.heap.size w1 w2) : BQ W0 q s n w2 := by
  obtain ⟨h1, h2, h3⟩ := h
  exact ⟨h1.trans (hb.mono h1.size), (hb.cell (p := ⟨q, 0, none⟩) (Nat.lt_of_lt_of_le hq h1.size)).trans h2, (hb.cell (p := ⟨q, 1, none⟩) (Nat.lt_of_lt_of_le hq h1.size)).trans h3⟩

set_option maxRecDepth 100000 in
set_option maxHeartbeats 2000000 in
theorem straight_walk (tape : List Int) (cl : Bool) (v : Value) (w : World) (ht : IntsR w w.heap.size v tape) (hn : tape.length ≤ maxLen) (hr : ∀ c ∈ tape, -9223372036854775808 ≤ c ∧ c ≤ 9223372036854775807) :
    Calls Try.prog 10 #[v, .bool cl] w fun e w' => e = .returned (.bool true) ∧ Below w.heap.size w w' := by
  obtain ⟨ao, cap, bt, off, rfl, h1, h2⟩ := ht
  have H1 := hid h1
  have H2 := hid h2
  have HR := hid hr
  clear h1 h2 hr
  unfold maxLen at hn
  go_enter Try.func10, Try.ntmps10
  have L0 : LO (w.alloc (.cells #[.string ⟨#[]⟩, .int .i64 0, .slice none 0 0, .bool false, .bool false, .bool false, .bool false, .bool false, .bool false, .bool true] 60)) w.heap.size ⟨[], [], full4 0, true⟩ :=
    ⟨.slice none 0 0, ⟨heap_alloc_new w _, rfl⟩, World.ownsRow_nil _ _ _ _⟩
  have b0 := (Below.refl w.heap.size w).alloc (Nat.le_refl _) (.cells #[.string ⟨#[]⟩, .int .i64 0, .slice none 0 0, .bool false, .bool false, .bool false, .bool false, .bool false, .bool false, .bool true] 60)
  go_wp2_with fail
  go_loopw [6] (fun i wr => ∃ k : Nat, k ≤ 4 ∧ i = .int .i64 k ∧ LO wr w.heap.size ⟨[], [], full4 k, true⟩ ∧ Below w.heap.size w wr) (fun i _ => 4 - (intOf i).toNat)
  case atStart => exact ⟨0, Nat.zero_le _, rfl, L0, b0⟩
  case round =>
    clear L0 b0
    obtain ⟨k, hk, rfl, Lk, bk⟩ := hrel
    by_cases hlt : k < 4
    · have z := Lk.fz (3 + k)
      have d := Lk.cf k (by omega)
      have L2 := Lk.setf k (by omega) true
      simp only at L2
      rw [full4_succ k hlt] at L2
      have b2 := bk.setCell (p := ⟨w.heap.size, 3 + k, none⟩) (Nat.le_refl _) (.bool true)
      clear Lk bk
      have hk6 : k < 6 := by omega
      go_wp2
      go_roundw
      case rel => exact ⟨k + 1, hlt, by go_num, L2, b2⟩
      case measure => simp [intOf]; omega
    · have hk4 : k = 4 := by omega
      subst hk4
      have L5 : LO wr w.heap.size (Ln.doesN tape 0) := Lk
      clear hlt hk Lk
      rw [show ((4 : Nat) : Int) = (4 : Int) from rfl]
      go_wp2_with fail
      go_loopw [7] (fun i wr => ∃ k : Nat, k ≤ min tape.length 30 ∧ i = .int .i64 k ∧ LO wr w.heap.size (Ln.doesN tape k) ∧ Below w.heap.size w wr) (fun i _ => 30 - (intOf i).toNat)
      case atStart => exact ⟨0, Nat.zero_le _, rfl, L5, bk⟩
      case round =>
        clear L5 bk
        obtain ⟨k, hk, rfl, Lk, bk⟩ := hrel
        have hkl : k ≤ tape.length := Nat.le_trans hk (Nat.min_le_left _ _)
        have hk30 : k ≤ 30 := Nat.le_trans hk (Nat.min_le_right _ _)
        have hcl := Ln.doesN_len tape k
        have hok := Ln.doesN_ok tape k
        have c9 := Lk.c9
        by_cases hgo : k < tape.length ∧ k < 30 ∧ (Ln.doesN tape k).well = true
        · obtain ⟨g1, g2, g3⟩ := hgo
          obtain ⟨rfl, hbt⟩ := H1.out (by omega)
          have hstk := hok.short g3
          have c1 := (bk.cell (p := ⟨bt, off + k, none⟩) hbt).trans (H2.out k g1)
          have hmem : tape.getD k 0 ∈ tape := by rw [List.getD_eq_getElem?_getD, List.getElem?_eq_getElem g1]; exact List.getElem_mem g1
          have C := hid (kdoes_any w.heap.size (tape.getD k 0) (Ln.doesN tape k) wr Lk (HR.out _ hmem) g3 (by omega) (by omega))
          have HNX : Hid (Ln.doesN tape (k + 1) = Ln.does (tape.getD k 0) (Ln.doesN tape k)) := by show (if (Ln.doesN tape k).well = true then _ else _) = _; rw [if_pos g3]
          rw [← HNX.out] at C
          rw [g3] at c9
          clear hok hstk hmem HNX hcl Lk
          generalize tape.getD k 0 = tk at *
          go_wp2_with fail
          refine C.out.mono ?_
          rintro e w3 ⟨rfl, L3, b3⟩
          have b4 := bk.trans b3
          clear C bk b3 c1 c9
          go_wp2
          go_roundw
          case rel => exact ⟨k + 1, by rw [Nat.le_min]; omega, by go_num, L3, b4⟩
          case measure => simp [intOf]; omega
        · have HEND : Hid (Ln.doesN tape (min tape.length 30) = Ln.doesN tape k) := by
            show _ = _
            by_cases hwl : (Ln.doesN tape k).well = true
            · have h3 : ¬ (k < tape.length ∧ k < 30) := fun h => hgo ⟨h.1, h.2, hwl⟩
              have : k = min tape.length 30 := by omega
              rw [this]
            · have := Ln.doesN_stop tape k (by simpa using hwl) (min tape.length 30 - k)
              rw [← this]
              congr 1
              omega
          obtain ⟨LINE, hLINE⟩ : ∃ LINE, LINE = Ln.line tape cl := ⟨_, rfl⟩
          have HLINE := hid hLINE
          have HL1 : Hid (cl = true → (Ln.doesN tape k).well = true → LINE = Ln.clean (Ln.doesN tape k)) := hid fun h1 h2 => by
            rw [hLINE]; unfold Ln.line; simp only; rw [HEND.out, if_pos ⟨h1, h2⟩]
          have HL2 : Hid (cl = false ∨ (Ln.doesN tape k).well = false → LINE = Ln.doesN tape k) := hid fun h => by
            rw [hLINE]; unfold Ln.line; simp only; rw [HEND.out, if_neg (by rcases h with h | h <;> simp [h])]
          have hE : (¬ k < tape.length) ∨ (k < tape.length ∧ ¬ k < 30) ∨ (k < tape.length ∧ k < 30 ∧ (Ln.doesN tape k).well = false) := by
            by_cases h1 : k < tape.length
            · by_cases h2 : k < 30
              · right; right
                refine ⟨h1, h2, ?_⟩
                cases hwl : (Ln.doesN tape k).well with
                | false => rfl
                | true => exact absurd ⟨h1, h2, hwl⟩ hgo
              · right; left; exact ⟨h1, h2⟩
            · left; exact h1
          have hll : LINE.code.length ≤ 80 := by rw [hLINE]; exact (Ln.line_ok tape cl).2
          have CC := hid fun hw => kclean_any w.heap.size (Ln.doesN tape k) wr Lk hok hw (by omega)
          clear hLINE hgo HEND hok hcl
          have HLk := hid Lk
          clear Lk
          generalize hDN : Ln.doesN tape k = DN at *
          clear hDN
          generalize hWL : DN.well = WL at *
          rcases hE with hE | ⟨hE, hE2⟩ | ⟨hE, hE2, rfl⟩
          all_goals cases cl
          all_goals try cases WL
          all_goals (first
            | (have e1 := HL1.out rfl rfl
               have C2 := hid (CC.out rfl)
               rw [← e1] at C2
               clear CC HL1 HL2 e1 HLk
               go_wp2_with fail
               refine C2.out.mono ?_
               rintro e w3 ⟨rfl, L3, b3⟩
               have bk3 := bk.trans b3
               clear C2 b3 bk c9)
            | (have e2 := HL2.out (by simp)
               have L3 : LO wr w.heap.size LINE := by rw [e2]; exact HLk.out
               have bk3 := bk
               clear CC HL1 HL2 e2 HLk bk
               generalize wr = w3 at *))
          all_goals (
            have C4 := hid (kwrite_any w.heap.size 0 0 LINE w3 L3 (by omega))
            clear L3
            go_wp2_with fail
            refine C4.out.mono ?_
            rintro e w4 ⟨rfl, L4, b4⟩
            have bk4 := bk3.trans b4
            clear C4 b4 bk3
            have C5 := hid (kleft_any w.heap.size _ w4 L4)
            go_wp2_with fail
            refine C5.out.mono ?_
            rintro e w5 ⟨rfl, a5⟩
            have L5 := L4.alike a5.1
            have bk5 := below_alike bk4 a5
            clear C5 a5 bk4 L4)
          all_goals (
            obtain ⟨v5, s5, o5⟩ := L5
            have hq5 := s5.lt
            have c0 := s5.c0
            have c1 := s5.c1
            have c9 := s5.c9
            have e0 : (Ln.write 0 0 LINE).code = Ln.codeOf LINE := rfl
            have e9 : (Ln.write 0 0 LINE).well = LINE.well := rfl
            have eL : Ln.left (Ln.write 0 0 LINE) = Ln.left LINE := rfl
            rw [e0] at c0 c1
            rw [e9] at c9
            rw [eL]
            have hcl : (Ln.codeOf LINE).length ≤ 81 := by unfold Ln.codeOf; simp only [List.length_append, List.length_singleton]; omega
            have hcs := cs_size (Ln.codeOf LINE)
            have HBB := hid (lit_bytes (Ln.codeOf LINE))
            have SAY : Hid (∀ e p, ChkSays ⟨(Pu.wMd (Ln.md (Ln.codeOf LINE))).toArray⟩ e p → e = wantS LINE ∧ p = 0) := hid fun e p h => by
              rw [HLINE.out] at h ⊢; exact says_straight rfl h
            have HWS : Hid (wantS LINE = if LINE.well = true ∧ Ln.left LINE = true then 0 else 3) := hid rfl
            have hone : (one8 (Ln.codeOf LINE).length).size = 1 := rfl
            have hBs : (⟨(Pu.wMd (Ln.md (Ln.codeOf LINE))).toArray⟩ : ByteArray).size ≤ 1000 := by
              rw [← HBB.out, ByteArray.size_append, ByteArray.size_append, hcs, hone]
              have : lit.size = 17 := rfl
              omega
            have CO := hid fun W => kone_any (Ln.codeOf LINE).length W
            unfold lit at HBB
            clear s5 o5 e0 e9 eL HLINE
            generalize (⟨(Pu.wMd (Ln.md (Ln.codeOf LINE))).toArray⟩ : ByteArray) = BB at *
            generalize cs (Ln.codeOf LINE) = SC at *
            generalize one8 (Ln.codeOf LINE).length = S1 at *
            generalize (Ln.codeOf LINE).length = NN at *
            generalize wantS LINE = WS at *
            generalize LINE.well = LW at *
            generalize Ln.left LINE = LL at *
            have t1 : (9223372036854775807 < 18 + 2 * NN) = False := by simp; omega
            have t2 : (9223372036854775807 < 17 + 1 + 2 * NN) = False := by simp; omega
            have S0 : BQ w5 w.heap.size SC NN w5.drew := ⟨(Below.refl _ _).drew, c0, c1⟩
            go_wp2_with fail
            go_region_held3 (fun w' => Below w5.heap.size w5 w' ∧ w'.cell? ⟨w.heap.size, 0, none⟩ = some (.string SC) ∧ w'.cell? ⟨w.heap.size, 1, none⟩ = some (.int .i64 NN))
              (first | exact S0 | exact BQ.step hq5 (by assumption) hb6)
              ((go_at_call 30; refine (CO.out _).mono ?_; rintro e w6 ⟨rfl, hb6⟩)))
          all_goals (
            rw [HBB.out]
            have b56 : Below w5.heap.size w5 w6 := (show BQ w5 w.heap.size SC NN w6 by assumption).1
            have c96 := (b56.cell (p := ⟨w.heap.size, 9, none⟩) hq5).trans c9
            have bk6 := bk5.trans (b56.mono (Nat.le_of_lt hq5))
            have hq6 := Nat.lt_of_lt_of_le hq5 b56.size
            clear b56 S0 CO c0 c1 c9 bk5 HBB t1 t2
            go_wp2_with fail
            refine (fcheck_any BB w6 (by unfold maxLen; omega)).mono ?_
            rintro e w7 ⟨e7, p7, rfl, hc7, hb7⟩
            obtain ⟨he7, hp7⟩ := SAY.out _ _ hc7
            subst he7 hp7
            have c97 := (hb7.cell (p := ⟨w.heap.size, 9, none⟩) hq6).trans c96
            have bk7 := bk6.trans (hb7.mono (Nat.le_of_lt hq6))
            have hq7 := Nat.lt_of_lt_of_le hq6 hb7.size
            clear hc7 hb7 c96 bk6
            go_wp2_with fail
            refine (new_any BB w7 (by unfold maxLen; omega)).mono ?_
            rintro e w8 hN
            obtain ⟨hb8, hN2⟩ := new_says hN SAY.out
            have c98 := (hb8.cell (p := ⟨w.heap.size, 9, none⟩) hq7).trans c97
            have bk8 := bk7.trans (hb8.mono (Nat.le_of_lt hq7))
            clear hN hb8 c97 bk7 SAY
            cases LW <;> cases LL)
          all_goals (
            have hws := HWS.out
            simp only [Bool.false_eq_true, false_and, and_false, and_self, if_false, if_true] at hws
            subst hws
            rcases hN2 with ⟨hne, rfl⟩ | ⟨qq, hz, rfl⟩)
          all_goals (first
            | exact absurd rfl hne
            | exact absurd hz (by decide)
            | skip)
          all_goals (
            go_wp2
            go_ret
            exact ⟨rfl, bk8⟩)
end Go.Proofs.Ytjamgmbdilkbcaa

/- A module that came in, opened. -/
namespace Go.Proofs.Ytjamgmbdilkbcaa
open Go.ChangeShapes Go.WideShapes Go.ChangeAt Go.RowKit Go.Deep Go.Joins

theorem Try.cells3 : Try.prog.cellsOf 3 = 1 := by kernel_rfl
theorem Try.cells30 : Try.prog.cellsOf 30 = 1 := by kernel_rfl
theorem Try.cells31 : Try.prog.cellsOf 31 = 1 := by kernel_rfl
theorem Try.cells76 : Try.prog.cellsOf 76 = 1 := by kernel_rfl
theorem Try.cells80 : Try.prog.cellsOf 80 = 2 := by kernel_rfl
theorem Try.cells86 : Try.prog.cellsOf 86 = 4 := by kernel_rfl
theorem Try.cells33 : Try.prog.cellsOf 33 = 2 := by kernel_rfl

section
variable {H : Type} {enc : TypeId × Value → H} {w : World} {spare : Nat → Bool} {held : Bool}

theorem bulkAll_len (l : List (DataW H)) : l.length ≤ Rows.uptoBulkAll l := by
  induction l with
  | nil => simp [Rows.uptoBulkAll]
  | cons d l ih =>
    have h1 : 1 ≤ Rows.uptoBulk d := by
      cases d with
      | lit x => cases x <;> simp [Rows.uptoBulk]
      | nil => simp [Rows.uptoBulk]
      | ptr d => simp [Rows.uptoBulk]
      | slice a b => simp [Rows.uptoBulk]
      | agg a => simp [Rows.uptoBulk]
      | iface a b => simp [Rows.uptoBulk]
      | map a => simp [Rows.uptoBulk]
      | held a => simp [Rows.uptoBulk]
    simp only [Rows.uptoBulkAll, List.length_cons]
    omega

theorem bulk_mem {d : DataW H} {l : List (DataW H)} (h : d ∈ l) : Rows.uptoBulk d ≤ Rows.uptoBulkAll l := by
  induction l with
  | nil => simp at h
  | cons e l ih =>
    simp only [Rows.uptoBulkAll]
    rcases List.mem_cons.1 h with rfl | h
    · omega
    · have := ih h; omega

theorem spot_none {a : Addr} {u : Value} (hu : w.cell? (a.add 0) = some u) : ∃ b off, a = ⟨b, off, none⟩ := by
  obtain ⟨b, off, spot⟩ := a
  have hspot : spot = none := by simpa [Addr.add] using World.cell?_spot hu
  subst hspot
  exact ⟨b, off, rfl⟩

theorem read_ints {fuel : Nat} {v : Value} {x : DataW H × List MemPlace} (h : DataW.trod enc Try.prog w 0 spare held fuel 30 [v] = some x) :
    ∃ l, IntsR w w.heap.size v l ∧ l.length ≤ maxLen ∧ l.length ≤ Rows.uptoBulk x.1 := by
  rcases open_ints Try.underlying30 Try.underlying3 Try.cells3 h with ⟨hcs, rfl⟩ | ⟨a, len, cap, zs, hcs, _, hl, hm, hz, rfl, hcell, _⟩
  · simp only [List.cons.injEq, and_true] at hcs
    subst hcs
    exact ⟨[], ⟨none, 0, 0, 0, rfl, fun h => absurd h (by simp), fun j hj => absurd hj (by simp)⟩, by simp, by simp⟩
  · simp only [List.cons.injEq, and_true] at hcs
    subst hcs
    have hzl : len ≤ zs.length := by rw [hz]; split <;> omega
    have hlen : (zs.take len).length = len := by simp; omega
    refine ⟨zs.take len, ?_, by omega, ?_⟩
    · by_cases h0 : 0 < len
      · obtain ⟨b, off, rfl, hc⟩ := ints_at hcell (by omega)
        refine ⟨some ⟨b, off, none⟩, cap, b, off, by rw [hlen], fun _ => ⟨rfl, ?_⟩, fun j hj => ?_⟩
        · exact World.block_lt_of_cell? w ⟨b, off + 0, none⟩ (hc 0 (by omega))
        · rw [hc j (by omega), getD_take_lt _ _ _ _ (by omega)]
      · have : len = 0 := by omega
        subst this
        exact ⟨some a, cap, 0, 0, by simp, fun h => absurd h (by simp), fun j hj => absurd hj (by simp)⟩
    · have := bulkAll_len (lits (H := H) .i64 (zs.take len))
      simp only [Rows.uptoBulk]
      simp only [lits, List.length_map] at this ⊢
      omega

theorem read_code {fuel : Nat} {v : Value} {x : DataW H × List MemPlace} (h : DataW.trod enc Try.prog w 0 spare held fuel 76 [v] = some x) :
    ∃ l, CodeR w w.heap.size v l ∧ l.length ≤ maxLen ∧ l.length ≤ Rows.uptoBulk x.1 := by
  rcases open_slice_pairs Try.underlying76 Try.underlying80 Try.cells80 rfl rfl Try.cells3 Try.cells3 h with ⟨hcs, rfl⟩ | ⟨a, len, cap, m, n, V0, V1, D0, D1, P0, P1, hcs, _, hl, hm, hmm, rfl, hx⟩
  · simp only [List.cons.injEq, and_true] at hcs
    subst hcs
    exact ⟨[], ⟨none, 0, 0, 0, rfl, fun h => absurd h (by simp), fun j hj => absurd hj (by simp)⟩, by simp, by simp⟩
  · simp only [List.cons.injEq, and_true] at hcs
    subst hcs
    have hlm : len ≤ m := by rw [hmm]; split <;> omega
    have each : ∀ i, i < len → ∃ y : Int × Int, w.cell? (a.add (i * 2)) = some (.int .i64 y.1) ∧ w.cell? (a.add (i * 2 + 1)) = some (.int .i64 y.2) := by
      intro i hi
      obtain ⟨g0, g1, t0, t1⟩ := hx i (by omega)
      obtain ⟨n0, e0, _, _⟩ := DataW.trod_int Try.underlying3 t0
      obtain ⟨n1, e1, _, _⟩ := DataW.trod_int Try.underlying3 t1
      simp only [List.cons.injEq, and_true] at e0 e1
      rw [e0] at g0
      rw [e1] at g1
      exact ⟨(n0, n1), g0, g1⟩
    obtain ⟨F, hF⟩ := choose_lt each
    have hlen : ((List.range len).map F).length = len := by simp
    refine ⟨(List.range len).map F, ?_, by omega, ?_⟩
    · by_cases h0 : 0 < len
      · obtain ⟨b, off, rfl⟩ := spot_none (a := a) (by have := (hF 0 h0).1; simpa using this)
        refine ⟨some ⟨b, off, none⟩, cap, b, off, by rw [hlen], fun _ => ⟨rfl, ?_⟩, fun j hj => ?_⟩
        · have := World.block_lt_of_cell? w _ (hF 0 h0).1
          rw [add_plain] at this
          exact this
        · have hj' : j < len := by omega
          have := hF j hj'
          rw [add_plain, add_plain] at this
          have e : ((List.range len).map F).getD j (0, 0) = F j := by simp [List.getD_eq_getElem?_getD, hj']
          rw [e]
          exact ⟨this.1, by simpa [Nat.add_assoc] using this.2⟩
      · have : len = 0 := by omega
        subst this
        exact ⟨some a, cap, 0, 0, by simp, fun h => absurd h (by simp), fun j hj => absurd hj (by simp)⟩
    · have := bulkAll_len ((List.range len).map fun i => DataW.agg (H := H) [D0 i, D1 i])
      simp only [Rows.uptoBulk]
      simp only [List.length_map, List.length_range] at this ⊢
      omega

/-- all lists of a function are at most N long. -/
def FnSmall (N : Nat) (f : Pu.Fn) : Prop := f.params.length ≤ N ∧ f.results.length ≤ N ∧ f.locals.length ≤ N ∧ f.code.length ≤ N

theorem read_fn {fuel : Nat} {c0 c1 c2 c3 : Value} {x : DataW H × List MemPlace} (h : DataW.trod enc Try.prog w 0 spare held fuel 86 [c0, c1, c2, c3] = some x) :
    ∃ f, FnR w w.heap.size ⟨c0, c1, c2, c3⟩ f ∧ FnSmall (Rows.uptoBulk x.1) f := by
  obtain ⟨y0, y1, y2, y3, n, rfl, _, h0, h1, h2, h3⟩ := trod_struct4 Try.underlying86 h
  simp only [Try.cells30, Try.cells76, List.drop_zero, List.drop_succ_cons, List.take_succ_cons, List.take_zero] at h0 h1 h2 h3
  obtain ⟨l0, r0, m0, b0⟩ := read_ints h0
  obtain ⟨l1, r1, m1, b1⟩ := read_ints h1
  obtain ⟨l2, r2, m2, b2⟩ := read_ints h2
  obtain ⟨l3, r3, m3, b3⟩ := read_code h3
  refine ⟨⟨l0, l1, l2, l3⟩, ⟨r0, r1, r2, r3, m0, m1, m2, m3⟩, ?_⟩
  simp only [FnSmall, Rows.uptoBulk, Rows.uptoBulkAll]
  omega

theorem read_fns {fuel : Nat} {v : Value} {x : DataW H × List MemPlace} (h : DataW.trod enc Try.prog w 0 spare held fuel 31 [v] = some x) :
    ∃ fs, FnsR w w.heap.size v fs ∧ fs.length ≤ maxLen ∧ fs.length ≤ Rows.uptoBulk x.1 ∧ ∀ f ∈ fs, FnSmall (Rows.uptoBulk x.1) f := by
  rcases open_slice Try.underlying31 h with ⟨hcs, rfl⟩ | ⟨a, len, cap, m, n, D, Pl, hcs, _, hl, hm, hmm, rfl, hx⟩
  · simp only [List.cons.injEq, and_true] at hcs
    subst hcs
    exact ⟨[], ⟨none, 0, 0, 0, rfl, fun h => absurd h (by simp), fun j hj => absurd hj (by simp)⟩, by simp, by simp, by simp⟩
  · simp only [List.cons.injEq, and_true] at hcs
    subst hcs
    have hlm : len ≤ m := by rw [hmm]; split <;> omega
    have each : ∀ i, i < len → ∃ y : Pu.Fn, ∃ z : FV, w.cell? (a.add (i * 4)) = some z.p ∧ w.cell? (a.add (i * 4 + 1)) = some z.r ∧ w.cell? (a.add (i * 4 + 2)) = some z.l ∧ w.cell? (a.add (i * 4 + 3)) = some z.c ∧ FnR w w.heap.size z y ∧ FnSmall (Rows.uptoBulk (D i)) y := by
      intro i hi
      obtain ⟨cs', h1, h2⟩ := hx i (by omega)
      rw [Try.cells86] at h1
      obtain ⟨_, hlen, hcell⟩ := World.cells?_some h1
      match cs', hlen with
      | [c0, c1, c2, c3], _ =>
        obtain ⟨f, hf, hs⟩ := read_fn h2
        have e0 := hcell 0 (by omega)
        have e1 := hcell 1 (by omega)
        have e2 := hcell 2 (by omega)
        have e3 := hcell 3 (by omega)
        rw [Go.Deep.add_add] at e0 e1 e2 e3
        exact ⟨f, ⟨c0, c1, c2, c3⟩, by simpa using e0, by simpa using e1, by simpa using e2, by simpa using e3, hf, hs⟩
    have : Inhabited Pu.Fn := ⟨⟨[], [], [], []⟩⟩
    obtain ⟨F, hF⟩ := choose_lt each
    have hlen : ((List.range len).map F).length = len := by simp
    refine ⟨(List.range len).map F, ?_, by omega, ?_, ?_⟩
    · by_cases h0 : 0 < len
      · obtain ⟨z, g0, _⟩ := hF 0 h0
        obtain ⟨b, off, rfl⟩ := spot_none (a := a) (by simpa using g0)
        refine ⟨some ⟨b, off, none⟩, cap, b, off, by rw [hlen], fun _ => ⟨rfl, ?_⟩, fun j hj => ?_⟩
        · have := World.block_lt_of_cell? w _ g0
          rw [add_plain] at this
          exact this
        · have hj' : j < len := by omega
          obtain ⟨z, g0, g1, g2, g3, hz, _⟩ := hF j hj'
          rw [add_plain] at g0 g1 g2 g3
          have e : ((List.range len).map F).getD j ⟨[], [], [], []⟩ = F j := by simp [List.getD_eq_getElem?_getD, hj']
          rw [e]
          exact ⟨z, g0, by simpa [Nat.add_assoc] using g1, by simpa [Nat.add_assoc] using g2, by simpa [Nat.add_assoc] using g3, hz⟩
      · have : len = 0 := by omega
        subst this
        exact ⟨some a, cap, 0, 0, by simp, fun h => absurd h (by simp), fun j hj => absurd hj (by simp)⟩
    · have := bulkAll_len ((List.range len).map D)
      simp only [Rows.uptoBulk]
      simp only [List.length_map, List.length_range] at this ⊢
      omega
    · intro f hf
      obtain ⟨i, hi, rfl⟩ := List.mem_map.1 hf
      have hi' : i < len := by simpa using hi
      obtain ⟨z, _, _, _, _, _, hs⟩ := hF i hi'
      have hb := bulk_mem (d := D i) (l := (List.range len).map D) (List.mem_map.2 ⟨i, hi, rfl⟩)
      simp only [FnSmall, Rows.uptoBulk] at hs ⊢
      omega

set_option maxRecDepth 100000 in
/-- A MODULE THAT CAME IN. -/
theorem read_module {r : Reach} {b0 : Nat} {v : Value} {d : DataW H} {p : List MemPlace} (hv : Value.okWide Try.prog w r b0 33 v) (h : DataW.Trod enc Try.prog w 0 spare held 33 v d p) :
    ∃ k u m, v = .agg #[k, u] ∧ MdR w w.heap.size k u m ∧ m.kinds.length ≤ Rows.uptoBulk d ∧ m.funcs.length ≤ Rows.uptoBulk d ∧ ∀ f ∈ m.funcs, FnSmall (Rows.uptoBulk d) f := by
  obtain ⟨c0, c1, y0, y1, n, rfl, rfl, rfl, h0, h1⟩ := open_agg2 Try.underlying33 (by kernel_rfl) Try.cells33 hv h
  obtain ⟨l, r0, m0, b0⟩ := read_ints h0
  obtain ⟨fs, r1, m1, b1, s1⟩ := read_fns h1
  refine ⟨c0, c1, ⟨l, fs⟩, rfl, ⟨r0, r1, m0, m1⟩, ?_, ?_, ?_⟩
  · simp only [Rows.uptoBulk, Rows.uptoBulkAll]; omega
  · simp only [Rows.uptoBulk, Rows.uptoBulkAll]; omega
  · intro f hf
    have := s1 f hf
    simp only [FnSmall, Rows.uptoBulk, Rows.uptoBulkAll] at this ⊢
    omega
end
end Go.Proofs.Ytjamgmbdilkbcaa
