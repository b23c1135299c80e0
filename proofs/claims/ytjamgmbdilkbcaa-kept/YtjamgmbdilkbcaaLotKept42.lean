import Derived.Test.YtjamgmbdilkbcaaLotKept40
import Derived.Test.YtjamgmbdilkbcaaLotKept41
import Derived.Test.YtjamgmbdilkbcaaLotKept08
import Derived.ProofKit
import Derived.OpenShut
import Derived.Deep.SlicePairs
import Derived.Lib.SmallJoins
/- Kept: opened. -/
namespace Go.Proofs.Ytjamgmbdilkbcaa
open Go.RowKit

/-- what opened leaves. -/
def OpOut (w w' : World) (ds : List Dl) (e : Ending) : Prop :=
  ∃ q r A, e = .returned (.tuple #[.pointer (some ⟨q, 0, none⟩), .pointer (some ⟨r, 0, none⟩)]) ∧ Lg w' q bankM A ∧ BkR w' r (booked ds ds.length) ∧ HoldsB A (booked ds ds.length) ∧ q < r ∧ w.heap.size ≤ q ∧ Below w.heap.size w w'

theorem book0 (w : World) : BkR (w.alloc (.cells #[.bool false, .bool false, .bool false, .bool false, .bool false, .bool false, .bool false, .bool false, .int .i64 0, .int .i64 0, .int .i64 0, .int .i64 0, .int .i64 0, .int .i64 0, .int .i64 0, .int .i64 0] 102)) w.heap.size Bk.none := by
  refine ⟨⟨_, heap_alloc_new w _, rfl, fun i hi => ?_⟩⟩
  have : i = 0 ∨ i = 1 ∨ i = 2 ∨ i = 3 ∨ i = 4 ∨ i = 5 ∨ i = 6 ∨ i = 7 := by omega
  rcases this with rfl | rfl | rfl | rfl | rfl | rfl | rfl | rfl <;> exact ⟨rfl, rfl⟩
theorem bank_is : Pu.isMd bankM = true := by kernel_rfl
theorem does_small (B : Bk) (what who to n : Nat) : (B.does what who to n).1.1.size ≤ maxLen := by
  unfold Bk.does
  split
  · exact (by decide : 12 ≤ maxLen)
  split
  · exact (by decide : 12 ≤ maxLen)
  split
  · exact (by decide : 12 ≤ maxLen)
  split
  · exact (by decide : 12 ≤ maxLen)
  split
  · exact (by decide : 12 ≤ maxLen)
  split
  · exact (by decide : 12 ≤ maxLen)
  split
  · exact (by decide : 14 ≤ maxLen)
  split
  · exact (by decide : 14 ≤ maxLen)
  · exact (by decide : 14 ≤ maxLen)

set_option maxRecDepth 100000 in
set_option maxHeartbeats 2000000 in
theorem opened_any (ds : List Dl) (v : Value) (w : World) (h : DealsR w w.heap.size v ds) (hn : ds.length ≤ maxLen) :
    Calls Try.prog 19 #[v] w fun e w' => OpOut w w' ds e := by
  obtain ⟨ao, cap, b, off, rfl, h1, h2⟩ := h
  have H1 := hid h1
  have H2 := hid h2
  clear h1 h2
  unfold maxLen at hn
  have CN := hid fun W => new_any bank W (by decide)
  go_enter Try.func19, Try.ntmps19
  go_wp2_with fail
  refine (CN.out _).mono ?_
  rintro e w1 hN
  obtain ⟨q, rfl, hq, hL, hb1⟩ := bank_new hN
  clear hN CN
  have B0 := book0 w1
  have al := (Below.refl w1.heap.size w1).alloc (Nat.le_refl _) (.cells #[.bool false, .bool false, .bool false, .bool false, .bool false, .bool false, .bool false, .bool false, .int .i64 0, .int .i64 0, .int .i64 0, .int .i64 0, .int .i64 0, .int .i64 0, .int .i64 0, .int .i64 0] 102)
  have hq1 := hL.lt
  have L0 := hL.below al hq1
  have b0 := hb1.trans (al.mono hb1.size)
  have hz1 := hb1.size
  clear hL al hb1
  go_wp2_with fail
  go_loopw [7] (fun i wr => ∃ (k : Nat) (A : Nat → Bool × Int), k ≤ ds.length ∧ i = .int .i64 k ∧ Lg wr q bankM A ∧ BkR wr w1.heap.size (booked ds k) ∧ HoldsB A (booked ds k) ∧ Below w.heap.size w wr) (fun i _ => ds.length - (intOf i).toNat)
  case atStart => exact ⟨0, _, Nat.zero_le _, rfl, L0, B0, holds_none, b0⟩
  case round =>
    clear L0 B0 b0
    obtain ⟨k, A, hk, rfl, Lk, Bk', Hk, bk⟩ := hrel
    by_cases hlt : k < ds.length
    · obtain ⟨rfl, hbb⟩ := H1.out (by omega)
      obtain ⟨c0, c1, c2, c3, i1, i2, i3, i4⟩ := H2.out k hlt
      have d0 := (bk.cell (p := ⟨b, off + k * 4, none⟩) hbb).trans c0
      have d1 := (bk.cell (p := ⟨b, off + k * 4 + 1, none⟩) hbb).trans c1
      have d2 := (bk.cell (p := ⟨b, off + k * 4 + 2, none⟩) hbb).trans c2
      have d3 := (bk.cell (p := ⟨b, off + k * 4 + 3, none⟩) hbb).trans c3
      have HNX : Hid (booked ds (k + 1) = ((booked ds k).does (pk (ds.getD k ⟨0, 0, 0, 0⟩).what 3) (pk (ds.getD k ⟨0, 0, 0, 0⟩).who 8) (pk (ds.getD k ⟨0, 0, 0, 0⟩).to 10) (pk (ds.getD k ⟨0, 0, 0, 0⟩).n 256)).2) := hid rfl
      clear c0 c2 c3
      generalize ds.getD k ⟨0, 0, 0, 0⟩ = D at *
      obtain ⟨rwhat, rwho, rto, rn⟩ := D
      simp only at *
      obtain ⟨p1, l1⟩ := pk_is (c := rwhat) (n := 3) (by omega)
      obtain ⟨p2, l2⟩ := pk_is (c := rwho) (n := 8) (by omega)
      obtain ⟨p3, l3⟩ := pk_is (c := rto) (n := 10) (by omega)
      obtain ⟨p4, l4⟩ := pk_is (c := rn) (n := 256) (by omega)
      generalize pk rwhat 3 = what at *
      generalize pk rwho 8 = who at *
      generalize pk rto 10 = to at *
      generalize pk rn 256 = nn at *
      have CD := hid (does_any w1.heap.size (booked ds k) rwhat rwho rto rn what who to nn wr Bk' i1 i2 i3 i4 p1 p2 p3 p4 (by omega) (by omega) (by omega) (by omega))
      have CP := hid fun W => kpick_any rwho 8 i2 (by omega) W
      rw [p2] at CP
      have HDL : Hid (∀ A' e c u, RunSays bankM A ((booked ds k).does what who to nn).1.1 who 100 A' e c u → e = ((booked ds k).does what who to nn).1.2.1 ∧ c = 0 ∧ u = ((booked ds k).does what who to nn).1.2.2 ∧ HoldsB A' ((booked ds k).does what who to nn).2) := hid fun A' e c u hr => deal_ok Hk (by omega) (by omega) (by omega) (by omega) hr
      have hsm := does_small (booked ds k) what who to nn
      unfold DoesOut at CD
      generalize (booked ds k).does what who to nn = D at *
      obtain ⟨⟨SC, EE, UU⟩, B2⟩ := D
      simp only at *
      have hw0 : (0 : Int) ≤ who ∧ (who : Int) < 8 := by omega
      clear p1 p2 p3 p4 l1 l2 l3 l4 i1 i2 i3 i4 Hk Bk'
      go_wp2_with fail
      refine CD.out.mono ?_
      rintro e w3 ⟨rfl, hB3, g3⟩
      clear CD d0 d1 d2 d3
      have L3 := Lk.low g3 hq1
      have al3 := (Below.refl w3.heap.size w3).alloc (Nat.le_refl _) (.cells #[.int .i64 EE, .int .i64 0, .int .i64 UU] 52)
      have hq3 := L3.lt
      have hr3 := hB3.lt
      have L4 := L3.below al3 hq3
      have B4 := hB3.below al3 hr3
      have x4 : B3 (w3.alloc (.cells #[.int .i64 EE, .int .i64 0, .int .i64 UU] 52)) w3.heap.size 52 _ _ _ := heap_alloc_new w3 _
      have bk3 := bk.grown g3 bk.size (fun k hk => by cases hk; omega)
      have bk4 := bk3.trans (al3.mono bk3.size)
      have CR := hid (run_any q bankM A SC who 100 _ L4 bank_is hsm)
      have d1' := (bk4.cell (p := ⟨b, off + k * 4 + 1, none⟩) hbb).trans c1
      clear Lk L3 hB3 g3 al3 bk bk3
      go_wp2_with fail
      refine (CP.out _).mono ?_
      rintro e w4 ⟨rfl, rfl⟩
      go_wp2_with fail
      refine CR.out.mono ?_
      rintro e w5 ⟨A', e5, c5, u5, rfl, hS, L5, g5⟩
      obtain ⟨rfl, rfl, rfl, H5⟩ := HDL.out _ _ _ _ hS
      have B5 := B4.kept g5 (by simp; omega)
      have x5 : B3 w5 w3.heap.size 52 _ _ _ := (g5.block _ x4.lt (by simp; omega)).trans x4
      have bk5 := bk4.grown g5 bk4.size (fun k hk => by cases hk; omega)
      clear CR CP HDL hS g5 L4 B4 x4 bk4 d1'
      have hq5 := L5.lt
      have hr5 := B5.lt
      have o0 := x5.c0
      have o1 := x5.c1
      have o2 := x5.c2
      have hx5 := x5.lt
      rw [← HNX.out] at B5 H5
      have al5 := (Below.refl w5.heap.size w5).alloc (Nat.le_refl _) (.cells #[.int .i64 e5, .int .i64 0, .int .i64 u5] 52)
      have L6 := L5.below al5 hq5
      have B6 := B5.below al5 hr5
      have bk6 := bk5.trans (al5.mono bk5.size)
      clear L5 B5 bk5 al5 c1
      go_wp2
      go_roundw
      case rel => exact ⟨k + 1, A', hlt, by go_num, L6, B6, H5, bk6⟩
      case measure => simp [intOf]; omega
    · have hkl : k = ds.length := by omega
      have FIN : Hid (OpOut w wr ds (.returned (.tuple #[.pointer (some ⟨q, 0, none⟩), .pointer (some ⟨w1.heap.size, 0, none⟩)]))) := hid ⟨q, w1.heap.size, A, rfl, Lk, hkl ▸ Bk', hkl ▸ Hk, hq1, hq, bk⟩
      clear Lk Bk' Hk bk hkl
      go_wp2
      go_ret2
      exact FIN.out
end Go.Proofs.Ytjamgmbdilkbcaa

/- Kept, walked. -/
namespace Go.Proofs.Ytjamgmbdilkbcaa
open Go.RowKit

set_option maxRecDepth 100000 in
set_option maxHeartbeats 2000000 in
theorem kept_walk (ds : List Dl) (v : Value) (x : Int) (w : World) (h : DealsR w w.heap.size v ds) (hn : ds.length ≤ maxLen) (hx : I64 x) :
    Calls Try.prog 8 #[v, .int .i64 x] w fun e w' => e = .returned (.bool true) ∧ Below w.heap.size w w' := by
  have CO := hid (opened_any ds v w h hn)
  obtain ⟨p2, l2⟩ := pk_is (c := x) (n := 8) (by omega)
  have CP := hid fun W => kpick_any x 8 hx (by omega) W
  rw [p2] at CP
  generalize pk x 8 = who at *
  have hw : who < 8 := by omega
  clear p2 l2 h
  go_enter Try.func8, Try.ntmps8
  go_wp2_with fail
  refine CO.out.mono ?_
  rintro e w1 ⟨q, r, A, rfl, hL, hB, hA, hqr, hq, hb⟩
  clear CO
  go_wp2_with fail
  refine (CP.out _).mono ?_
  rintro e w2 ⟨rfl, rfl⟩
  clear CP
  go_wp2_with fail
  refine (holds_any q r A _ who _ hL hB hA hw).mono ?_
  rintro e w3 ⟨rfl, hb3⟩
  have L3 := hL.below hb3 hL.lt
  have B3' := hB.below hb3 hB.lt
  have b3 := hb.trans (hb3.mono hb.size)
  clear hL hB hb hb3
  go_wp2_with fail
  go_loopw [8] (fun i wr => ∃ k : Nat, k ≤ 8 ∧ i = .int .i64 k ∧ Lg wr q bankM A ∧ BkR wr r (booked ds ds.length) ∧ Below w.heap.size w wr) (fun i _ => 8 - (intOf i).toNat)
  case atStart => exact ⟨0, Nat.zero_le _, rfl, L3, B3', b3⟩
  case round =>
    clear L3 B3' b3
    obtain ⟨k, hk, rfl, Lk, Bk', bk⟩ := hrel
    by_cases hlt : k < 8
    · have C := hid (holds_any q r A _ k _ Lk Bk' hA hlt)
      go_wp2_with fail
      refine C.out.mono ?_
      rintro e w4 ⟨rfl, hb4⟩
      have L4 := Lk.below hb4 Lk.lt
      have B4 := Bk'.below hb4 Bk'.lt
      have b4 := bk.trans (hb4.mono bk.size)
      clear C Lk Bk' bk hb4
      go_wp2
      go_roundw
      case rel => exact ⟨k + 1, hlt, by go_num, L4, B4, b4⟩
      case measure => simp [intOf]; omega
    · have hk8 : k = 8 := by omega
      subst hk8
      have C := hid (amount_any q bankM A 0 2 wr Lk)
      rw [show ledAmount bankM A 0 2 = (0, 4) from rfl] at C
      clear Bk' Lk hlt hk
      rw [show ((8 : Nat) : Int) = (8 : Int) from rfl]
      go_wp2_with fail
      refine C.out.mono ?_
      rintro e w4 ⟨rfl, hb4⟩
      have b4 := bk.trans (hb4.mono bk.size)
      clear C bk hb4
      go_wp2
      go_ret
      exact ⟨rfl, b4⟩
end Go.Proofs.Ytjamgmbdilkbcaa

/- A module that came in, opened. -/
namespace Go.Proofs.Ytjamgmbdilkbcaa
open Go.ChangeShapes Go.WideShapes Go.ChangeAt Go.RowKit Go.Deep Go.Joins

theorem Try.cells3 : Try.prog.cellsOf 3 = 1 := by kernel_rfl
theorem Try.cells30 : Try.prog.cellsOf 30 = 1 := by kernel_rfl
theorem Try.cells31 : Try.prog.cellsOf 31 = 1 := by kernel_rfl
theorem Try.cells76 : Try.prog.cellsOf 76 = 1 := by kernel_rfl
theorem Try.cells80 : Try.prog.cellsOf 80 = 2 := by kernel_rfl
theorem Try.cells86 : Try.prog.cellsOf 86 = 4 := by kernel_rfl
theorem Try.cells33 : Try.prog.cellsOf 33 = 2 := by kernel_rfl

section
variable {H : Type} {enc : TypeId × Value → H} {w : World} {spare : Nat → Bool} {held : Bool}

theorem bulkAll_len (l : List (DataW H)) : l.length ≤ Rows.uptoBulkAll l := by
  induction l with
  | nil => simp [Rows.uptoBulkAll]
  | cons d l ih =>
    have h1 : 1 ≤ Rows.uptoBulk d := by
      cases d with
      | lit x => cases x <;> simp [Rows.uptoBulk]
      | nil => simp [Rows.uptoBulk]
      | ptr d => simp [Rows.uptoBulk]
      | slice a b => simp [Rows.uptoBulk]
      | agg a => simp [Rows.uptoBulk]
      | iface a b => simp [Rows.uptoBulk]
      | map a => simp [Rows.uptoBulk]
      | held a => simp [Rows.uptoBulk]
    simp only [Rows.uptoBulkAll, List.length_cons]
    omega

theorem bulk_mem {d : DataW H} {l : List (DataW H)} (h : d ∈ l) : Rows.uptoBulk d ≤ Rows.uptoBulkAll l := by
  induction l with
  | nil => simp at h
  | cons e l ih =>
    simp only [Rows.uptoBulkAll]
    rcases List.mem_cons.1 h with rfl | h
    · omega
    · have := ih h; omega

theorem spot_none {a : Addr} {u : Value} (hu : w.cell? (a.add 0) = some u) : ∃ b off, a = ⟨b, off, none⟩ := by
  obtain ⟨b, off, spot⟩ := a
  have hspot : spot = none := by simpa [Addr.add] using World.cell?_spot hu
  subst hspot
  exact ⟨b, off, rfl⟩

theorem read_ints {fuel : Nat} {v : Value} {x : DataW H × List MemPlace} (h : DataW.trod enc Try.prog w 0 spare held fuel 30 [v] = some x) :
    ∃ l, IntsR w w.heap.size v l ∧ l.length ≤ maxLen ∧ l.length ≤ Rows.uptoBulk x.1 := by
  rcases open_ints Try.underlying30 Try.underlying3 Try.cells3 h with ⟨hcs, rfl⟩ | ⟨a, len, cap, zs, hcs, _, hl, hm, hz, rfl, hcell, _⟩
  · simp only [List.cons.injEq, and_true] at hcs
    subst hcs
    exact ⟨[], ⟨none, 0, 0, 0, rfl, fun h => absurd h (by simp), fun j hj => absurd hj (by simp)⟩, by simp, by simp⟩
  · simp only [List.cons.injEq, and_true] at hcs
    subst hcs
    have hzl : len ≤ zs.length := by rw [hz]; split <;> omega
    have hlen : (zs.take len).length = len := by simp; omega
    refine ⟨zs.take len, ?_, by omega, ?_⟩
    · by_cases h0 : 0 < len
      · obtain ⟨b, off, rfl, hc⟩ := ints_at hcell (by omega)
        refine ⟨some ⟨b, off, none⟩, cap, b, off, by rw [hlen], fun _ => ⟨rfl, ?_⟩, fun j hj => ?_⟩
        · exact World.block_lt_of_cell? w ⟨b, off + 0, none⟩ (hc 0 (by omega))
        · rw [hc j (by omega), getD_take_lt _ _ _ _ (by omega)]
      · have : len = 0 := by omega
        subst this
        exact ⟨some a, cap, 0, 0, by simp, fun h => absurd h (by simp), fun j hj => absurd hj (by simp)⟩
    · have := bulkAll_len (lits (H := H) .i64 (zs.take len))
      simp only [Rows.uptoBulk]
      simp only [lits, List.length_map] at this ⊢
      omega

theorem read_code {fuel : Nat} {v : Value} {x : DataW H × List MemPlace} (h : DataW.trod enc Try.prog w 0 spare held fuel 76 [v] = some x) :
    ∃ l, CodeR w w.heap.size v l ∧ l.length ≤ maxLen ∧ l.length ≤ Rows.uptoBulk x.1 := by
  rcases open_slice_pairs Try.underlying76 Try.underlying80 Try.cells80 rfl rfl Try.cells3 Try.cells3 h with ⟨hcs, rfl⟩ | ⟨a, len, cap, m, n, V0, V1, D0, D1, P0, P1, hcs, _, hl, hm, hmm, rfl, hx⟩
  · simp only [List.cons.injEq, and_true] at hcs
    subst hcs
    exact ⟨[], ⟨none, 0, 0, 0, rfl, fun h => absurd h (by simp), fun j hj => absurd hj (by simp)⟩, by simp, by simp⟩
  · simp only [List.cons.injEq, and_true] at hcs
    subst hcs
    have hlm : len ≤ m := by rw [hmm]; split <;> omega
    have each : ∀ i, i < len → ∃ y : Int × Int, w.cell? (a.add (i * 2)) = some (.int .i64 y.1) ∧ w.cell? (a.add (i * 2 + 1)) = some (.int .i64 y.2) := by
      intro i hi
      obtain ⟨g0, g1, t0, t1⟩ := hx i (by omega)
      obtain ⟨n0, e0, _, _⟩ := DataW.trod_int Try.underlying3 t0
      obtain ⟨n1, e1, _, _⟩ := DataW.trod_int Try.underlying3 t1
      simp only [List.cons.injEq, and_true] at e0 e1
      rw [e0] at g0
      rw [e1] at g1
      exact ⟨(n0, n1), g0, g1⟩
    obtain ⟨F, hF⟩ := choose_lt each
    have hlen : ((List.range len).map F).length = len := by simp
    refine ⟨(List.range len).map F, ?_, by omega, ?_⟩
    · by_cases h0 : 0 < len
      · obtain ⟨b, off, rfl⟩ := spot_none (a := a) (by have := (hF 0 h0).1; simpa using this)
        refine ⟨some ⟨b, off, none⟩, cap, b, off, by rw [hlen], fun _ => ⟨rfl, ?_⟩, fun j hj => ?_⟩
        · have := World.block_lt_of_cell? w _ (hF 0 h0).1
          rw [add_plain] at this
          exact this
        · have hj' : j < len := by omega
          have := hF j hj'
          rw [add_plain, add_plain] at this
          have e : ((List.range len).map F).getD j (0, 0) = F j := by simp [List.getD_eq_getElem?_getD, hj']
          rw [e]
          exact ⟨this.1, by simpa [Nat.add_assoc] using this.2⟩
      · have : len = 0 := by omega
        subst this
        exact ⟨some a, cap, 0, 0, by simp, fun h => absurd h (by simp), fun j hj => absurd hj (by simp)⟩
    · have := bulkAll_len ((List.range len).map fun i => DataW.agg (H := H) [D0 i, D1 i])
      simp only [Rows.uptoBulk]
      simp only [List.length_map, List.length_range] at this ⊢
      omega

/-- all lists of a function are at most N long. -/
def FnSmall (N : Nat) (f : Pu.Fn) : Prop := f.params.length ≤ N ∧ f.results.length ≤ N ∧ f.locals.length ≤ N ∧ f.code.length ≤ N

theorem read_fn {fuel : Nat} {c0 c1 c2 c3 : Value} {x : DataW H × List MemPlace} (h : DataW.trod enc Try.prog w 0 spare held fuel 86 [c0, c1, c2, c3] = some x) :
    ∃ f, FnR w w.heap.size ⟨c0, c1, c2, c3⟩ f ∧ FnSmall (Rows.uptoBulk x.1) f := by
  obtain ⟨y0, y1, y2, y3, n, rfl, _, h0, h1, h2, h3⟩ := trod_struct4 Try.underlying86 h
  simp only [Try.cells30, Try.cells76, List.drop_zero, List.drop_succ_cons, List.take_succ_cons, List.take_zero] at h0 h1 h2 h3
  obtain ⟨l0, r0, m0, b0⟩ := read_ints h0
  obtain ⟨l1, r1, m1, b1⟩ := read_ints h1
  obtain ⟨l2, r2, m2, b2⟩ := read_ints h2
  obtain ⟨l3, r3, m3, b3⟩ := read_code h3
  refine ⟨⟨l0, l1, l2, l3⟩, ⟨r0, r1, r2, r3, m0, m1, m2, m3⟩, ?_⟩
  simp only [FnSmall, Rows.uptoBulk, Rows.uptoBulkAll]
  omega

theorem read_fns {fuel : Nat} {v : Value} {x : DataW H × List MemPlace} (h : DataW.trod enc Try.prog w 0 spare held fuel 31 [v] = some x) :
    ∃ fs, FnsR w w.heap.size v fs ∧ fs.length ≤ maxLen ∧ fs.length ≤ Rows.uptoBulk x.1 ∧ ∀ f ∈ fs, FnSmall (Rows.uptoBulk x.1) f := by
  rcases open_slice Try.underlying31 h with ⟨hcs, rfl⟩ | ⟨a, len, cap, m, n, D, Pl, hcs, _, hl, hm, hmm, rfl, hx⟩
  · simp only [List.cons.injEq, and_true] at hcs
    subst hcs
    exact ⟨[], ⟨none, 0, 0, 0, rfl, fun h => absurd h (by simp), fun j hj => absurd hj (by simp)⟩, by simp, by simp, by simp⟩
  · simp only [List.cons.injEq, and_true] at hcs
    subst hcs
    have hlm : len ≤ m := by rw [hmm]; split <;> omega
    have each : ∀ i, i < len → ∃ y : Pu.Fn, ∃ z : FV, w.cell? (a.add (i * 4)) = some z.p ∧ w.cell? (a.add (i * 4 + 1)) = some z.r ∧ w.cell? (a.add (i * 4 + 2)) = some z.l ∧ w.cell? (a.add (i * 4 + 3)) = some z.c ∧ FnR w w.heap.size z y ∧ FnSmall (Rows.uptoBulk (D i)) y := by
      intro i hi
      obtain ⟨cs', h1, h2⟩ := hx i (by omega)
      rw [Try.cells86] at h1
      obtain ⟨_, hlen, hcell⟩ := World.cells?_some h1
      match cs', hlen with
      | [c0, c1, c2, c3], _ =>
        obtain ⟨f, hf, hs⟩ := read_fn h2
        have e0 := hcell 0 (by omega)
        have e1 := hcell 1 (by omega)
        have e2 := hcell 2 (by omega)
        have e3 := hcell 3 (by omega)
        rw [Go.Deep.add_add] at e0 e1 e2 e3
        exact ⟨f, ⟨c0, c1, c2, c3⟩, by simpa using e0, by simpa using e1, by simpa using e2, by simpa using e3, hf, hs⟩
    have : Inhabited Pu.Fn := ⟨⟨[], [], [], []⟩⟩
    obtain ⟨F, hF⟩ := choose_lt each
    have hlen : ((List.range len).map F).length = len := by simp
    refine ⟨(List.range len).map F, ?_, by omega, ?_, ?_⟩
    · by_cases h0 : 0 < len
      · obtain ⟨z, g0, _⟩ := hF 0 h0
        obtain ⟨b, off, rfl⟩ := spot_none (a := a) (by simpa using g0)
        refine ⟨some ⟨b, off, none⟩, cap, b, off, by rw [hlen], fun _ => ⟨rfl, ?_⟩, fun j hj => ?_⟩
        · have := World.block_lt_of_cell? w _ g0
          rw [add_plain] at this
          exact this
        · have hj' : j < len := by omega
          obtain ⟨z, g0, g1, g2, g3, hz, _⟩ := hF j hj'
          rw [add_plain] at g0 g1 g2 g3
          have e : ((List.range len).map F).getD j ⟨[], [], [], []⟩ = F j := by simp [List.getD_eq_getElem?_getD, hj']
          rw [e]
          exact ⟨z, g0, by simpa [Nat.add_assoc] using g1, by simpa [Nat.add_assoc] using g2, by simpa [Nat.add_assoc] using g3, hz⟩
      · have : len = 0 := by omega
        subst this
        exact ⟨some a, cap, 0, 0, by simp, fun h => absurd h (by simp), fun j hj => absurd hj (by simp)⟩
    · have := bulkAll_len ((List.range len).map D)
      simp only [Rows.uptoBulk]
      simp only [List.length_map, List.length_range] at this ⊢
      omega
    · intro f hf
      obtain ⟨i, hi, rfl⟩ := List.mem_map.1 hf
      have hi' : i < len := by simpa using hi
      obtain ⟨z, _, _, _, _, _, hs⟩ := hF i hi'
      have hb := bulk_mem (d := D i) (l := (List.range len).map D) (List.mem_map.2 ⟨i, hi, rfl⟩)
      simp only [FnSmall, Rows.uptoBulk] at hs ⊢
      omega

set_option maxRecDepth 100000 in
/-- A MODULE THAT CAME IN. -/
theorem read_module {r : Reach} {b0 : Nat} {v : Value} {d : DataW H} {p : List MemPlace} (hv : Value.okWide Try.prog w r b0 33 v) (h : DataW.Trod enc Try.prog w 0 spare held 33 v d p) :
    ∃ k u m, v = .agg #[k, u] ∧ MdR w w.heap.size k u m ∧ m.kinds.length ≤ Rows.uptoBulk d ∧ m.funcs.length ≤ Rows.uptoBulk d ∧ ∀ f ∈ m.funcs, FnSmall (Rows.uptoBulk d) f := by
  obtain ⟨c0, c1, y0, y1, n, rfl, rfl, rfl, h0, h1⟩ := open_agg2 Try.underlying33 (by kernel_rfl) Try.cells33 hv h
  obtain ⟨l, r0, m0, b0⟩ := read_ints h0
  obtain ⟨fs, r1, m1, b1, s1⟩ := read_fns h1
  refine ⟨c0, c1, ⟨l, fs⟩, rfl, ⟨r0, r1, m0, m1⟩, ?_, ?_, ?_⟩
  · simp only [Rows.uptoBulk, Rows.uptoBulkAll]; omega
  · simp only [Rows.uptoBulk, Rows.uptoBulkAll]; omega
  · intro f hf
    have := s1 f hf
    simp only [FnSmall, Rows.uptoBulk, Rows.uptoBulkAll] at this ⊢
    omega
end
end Go.Proofs.Ytjamgmbdilkbcaa

/- Deals that came in, opened. -/
namespace Go.Proofs.Ytjamgmbdilkbcaa
open Go.ChangeShapes Go.WideShapes Go.ChangeAt Go.RowKit Go.Deep Go.Joins

theorem Try.cells106 : Try.prog.cellsOf 106 = 4 := by kernel_rfl

section
variable {H : Type} {enc : TypeId × Value → H} {w : World} {spare : Nat → Bool} {held : Bool}
theorem wf_i64 {n : Int} (h : (Lit.int .i64 n).wf = true) : I64 n := by
  simp only [Lit.wf, Bool.and_eq_true, decide_eq_true_eq] at h
  exact h
theorem read_deals {fuel : Nat} {v : Value} {x : DataW H × List MemPlace} (h : DataW.trod enc Try.prog w 0 spare held fuel 41 [v] = some x) :
    ∃ ds, DealsR w w.heap.size v ds ∧ ds.length ≤ maxLen := by
  rcases open_slice Try.underlying41 h with ⟨hcs, rfl⟩ | ⟨a, len, cap, m, n, D, Pl, hcs, _, hl, hm, hmm, rfl, hx⟩
  · simp only [List.cons.injEq, and_true] at hcs
    subst hcs
    exact ⟨[], ⟨none, 0, 0, 0, rfl, fun h => absurd h (by simp), fun j hj => absurd hj (by simp)⟩, by simp⟩
  · simp only [List.cons.injEq, and_true] at hcs
    subst hcs
    have hlm : len ≤ m := by rw [hmm]; split <;> omega
    have each : ∀ i, i < len → ∃ y : Dl, w.cell? (a.add (i * 4)) = some (.int .i64 y.what) ∧ w.cell? (a.add (i * 4 + 1)) = some (.int .i64 y.who) ∧ w.cell? (a.add (i * 4 + 2)) = some (.int .i64 y.to) ∧ w.cell? (a.add (i * 4 + 3)) = some (.int .i64 y.n) ∧ I64 y.what ∧ I64 y.who ∧ I64 y.to ∧ I64 y.n := by
      intro i hi
      obtain ⟨cs', h1, h2⟩ := hx i (by omega)
      rw [Try.cells106] at h1
      obtain ⟨_, hlen, hcell⟩ := World.cells?_some h1
      match cs', hlen with
      | [c0, c1, c2, c3], _ =>
        obtain ⟨y0, y1, y2, y3, n', _, _, t0, t1, t2, t3⟩ := trod_struct4 Try.underlying106 h2
        simp only [Try.cells3, List.drop_zero, List.drop_succ_cons, List.take_succ_cons, List.take_zero] at t0 t1 t2 t3
        obtain ⟨n0, e0, _, f0⟩ := DataW.trod_int Try.underlying3 t0
        obtain ⟨n1, e1, _, f1⟩ := DataW.trod_int Try.underlying3 t1
        obtain ⟨n2, e2, _, f2⟩ := DataW.trod_int Try.underlying3 t2
        obtain ⟨n3, e3, _, f3⟩ := DataW.trod_int Try.underlying3 t3
        simp only [List.cons.injEq, and_true] at e0 e1 e2 e3
        subst e0 e1 e2 e3
        have g0 := hcell 0 (by omega)
        have g1 := hcell 1 (by omega)
        have g2 := hcell 2 (by omega)
        have g3 := hcell 3 (by omega)
        rw [Go.Deep.add_add] at g0 g1 g2 g3
        exact ⟨⟨n0, n1, n2, n3⟩, by simpa using g0, by simpa using g1, by simpa using g2, by simpa using g3, wf_i64 f0, wf_i64 f1, wf_i64 f2, wf_i64 f3⟩
    have : Inhabited Dl := ⟨⟨0, 0, 0, 0⟩⟩
    obtain ⟨F, hF⟩ := choose_lt each
    have hlen : ((List.range len).map F).length = len := by simp
    refine ⟨(List.range len).map F, ?_, by omega⟩
    by_cases h0 : 0 < len
    · obtain ⟨g0, _⟩ := hF 0 h0
      obtain ⟨b, off, rfl⟩ := spot_none (a := a) (by simpa using g0)
      refine ⟨some ⟨b, off, none⟩, cap, b, off, by rw [hlen], fun _ => ⟨rfl, ?_⟩, fun j hj => ?_⟩
      · have := World.block_lt_of_cell? w _ g0
        rw [add_plain] at this
        exact this
      · have hj' : j < len := by omega
        obtain ⟨g0, g1, g2, g3, hz⟩ := hF j hj'
        rw [add_plain] at g0 g1 g2 g3
        have e : ((List.range len).map F).getD j ⟨0, 0, 0, 0⟩ = F j := by simp [List.getD_eq_getElem?_getD, hj']
        rw [e]
        exact ⟨g0, by simpa [Nat.add_assoc] using g1, by simpa [Nat.add_assoc] using g2, by simpa [Nat.add_assoc] using g3, hz⟩
    · have : len = 0 := by omega
      subst this
      exact ⟨some a, cap, 0, 0, by simp, fun h => absurd h (by simp), fun j hj => absurd hj (by simp)⟩
end
end Go.Proofs.Ytjamgmbdilkbcaa
