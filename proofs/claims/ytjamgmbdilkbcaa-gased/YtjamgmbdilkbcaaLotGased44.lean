import Derived.Test.YtjamgmbdilkbcaaLotGased08
import Derived.ProofKit
import Derived.OpenShut
import Derived.Deep.SlicePairs
import Derived.Lib.SmallJoins
import Derived.Test.YtjamgmbdilkbcaaLotGased40
/- A module that came in, opened. -/
namespace Go.Proofs.Ytjamgmbdilkbcaa
open Go.ChangeShapes Go.WideShapes Go.ChangeAt Go.RowKit Go.Deep Go.Joins

theorem Try.cells3 : Try.prog.cellsOf 3 = 1 := by kernel_rfl
theorem Try.cells30 : Try.prog.cellsOf 30 = 1 := by kernel_rfl
theorem Try.cells31 : Try.prog.cellsOf 31 = 1 := by kernel_rfl
theorem Try.cells76 : Try.prog.cellsOf 76 = 1 := by kernel_rfl
theorem Try.cells80 : Try.prog.cellsOf 80 = 2 := by kernel_rfl
theorem Try.cells86 : Try.prog.cellsOf 86 = 4 := by kernel_rfl
theorem Try.cells33 : Try.prog.cellsOf 33 = 2 := by kernel_rfl

section
variable {H : Type} {enc : TypeId × Value → H} {w : World} {spare : Nat → Bool} {held : Bool}

theorem bulkAll_len (l : List (DataW H)) : l.length ≤ Rows.uptoBulkAll l := by
  induction l with
  | nil => simp [Rows.uptoBulkAll]
  | cons d l ih =>
    have h1 : 1 ≤ Rows.uptoBulk d := by
      cases d with
      | lit x => cases x <;> simp [Rows.uptoBulk]
      | nil => simp [Rows.uptoBulk]
      | ptr d => simp [Rows.uptoBulk]
      | slice a b => simp [Rows.uptoBulk]
      | agg a => simp [Rows.uptoBulk]
      | iface a b => simp [Rows.uptoBulk]
      | map a => simp [Rows.uptoBulk]
      | held a => simp [Rows.uptoBulk]
    simp only [Rows.uptoBulkAll, List.length_cons]
    omega

theorem bulk_mem {d : DataW H} {l : List (DataW H)} (h : d ∈ l) : Rows.uptoBulk d ≤ Rows.uptoBulkAll l := by
  induction l with
  | nil => simp at h
  | cons e l ih =>
    simp only [Rows.uptoBulkAll]
    rcases List.mem_cons.1 h with rfl | h
    · omega
    · have := ih h; omega

theorem spot_none {a : Addr} {u : Value} (hu : w.cell? (a.add 0) = some u) : ∃ b off, a = ⟨b, off, none⟩ := by
  obtain ⟨b, off, spot⟩ := a
  have hspot : spot = none := by simpa [Addr.add] using World.cell?_spot hu
  subst hspot
  exact ⟨b, off, rfl⟩

theorem read_ints {fuel : Nat} {v : Value} {x : DataW H × List MemPlace} (h : DataW.trod enc Try.prog w 0 spare held fuel 30 [v] = some x) :
    ∃ l, IntsR w w.heap.size v l ∧ l.length ≤ maxLen ∧ l.length ≤ Rows.uptoBulk x.1 := by
  rcases open_ints Try.underlying30 Try.underlying3 Try.cells3 h with ⟨hcs, rfl⟩ | ⟨a, len, cap, zs, hcs, _, hl, hm, hz, rfl, hcell, _⟩
  · simp only [List.cons.injEq, and_true] at hcs
    subst hcs
    exact ⟨[], ⟨none, 0, 0, 0, rfl, fun h => absurd h (by simp), fun j hj => absurd hj (by simp)⟩, by simp, by simp⟩
  · simp only [List.cons.injEq, and_true] at hcs
    subst hcs
    have hzl : len ≤ zs.length := by rw [hz]; split <;> omega
    have hlen : (zs.take len).length = len := by simp; omega
    refine ⟨zs.take len, ?_, by omega, ?_⟩
    · by_cases h0 : 0 < len
      · obtain ⟨b, off, rfl, hc⟩ := ints_at hcell (by omega)
        refine ⟨some ⟨b, off, none⟩, cap, b, off, by rw [hlen], fun _ => ⟨rfl, ?_⟩, fun j hj => ?_⟩
        · exact World.block_lt_of_cell? w ⟨b, off + 0, none⟩ (hc 0 (by omega))
        · rw [hc j (by omega), getD_take_lt _ _ _ _ (by omega)]
      · have : len = 0 := by omega
        subst this
        exact ⟨some a, cap, 0, 0, by simp, fun h => absurd h (by simp), fun j hj => absurd hj (by simp)⟩
    · have := bulkAll_len (lits (H := H) .i64 (zs.take len))
      simp only [Rows.uptoBulk]
      simp only [lits, List.length_map] at this ⊢
      omega

theorem read_code {fuel : Nat} {v : Value} {x : DataW H × List MemPlace} (h : DataW.trod enc Try.prog w 0 spare held fuel 76 [v] = some x) :
    ∃ l, CodeR w w.heap.size v l ∧ l.length ≤ maxLen ∧ l.length ≤ Rows.uptoBulk x.1 := by
  rcases open_slice_pairs Try.underlying76 Try.underlying80 Try.cells80 rfl rfl Try.cells3 Try.cells3 h with ⟨hcs, rfl⟩ | ⟨a, len, cap, m, n, V0, V1, D0, D1, P0, P1, hcs, _, hl, hm, hmm, rfl, hx⟩
  · simp only [List.cons.injEq, and_true] at hcs
    subst hcs
    exact ⟨[], ⟨none, 0, 0, 0, rfl, fun h => absurd h (by simp), fun j hj => absurd hj (by simp)⟩, by simp, by simp⟩
  · simp only [List.cons.injEq, and_true] at hcs
    subst hcs
    have hlm : len ≤ m := by rw [hmm]; split <;> omega
    have each : ∀ i, i < len → ∃ y : Int × Int, w.cell? (a.add (i * 2)) = some (.int .i64 y.1) ∧ w.cell? (a.add (i * 2 + 1)) = some (.int .i64 y.2) := by
      intro i hi
      obtain ⟨g0, g1, t0, t1⟩ := hx i (by omega)
      obtain ⟨n0, e0, _, _⟩ := DataW.trod_int Try.underlying3 t0
      obtain ⟨n1, e1, _, _⟩ := DataW.trod_int Try.underlying3 t1
      simp only [List.cons.injEq, and_true] at e0 e1
      rw [e0] at g0
      rw [e1] at g1
      exact ⟨(n0, n1), g0, g1⟩
    obtain ⟨F, hF⟩ := choose_lt each
    have hlen : ((List.range len).map F).length = len := by simp
    refine ⟨(List.range len).map F, ?_, by omega, ?_⟩
    · by_cases h0 : 0 < len
      · obtain ⟨b, off, rfl⟩ := spot_none (a := a) (by have := (hF 0 h0).1; simpa using this)
        refine ⟨some ⟨b, off, none⟩, cap, b, off, by rw [hlen], fun _ => ⟨rfl, ?_⟩, fun j hj => ?_⟩
        · have := World.block_lt_of_cell? w _ (hF 0 h0).1
          rw [add_plain] at this
          exact this
        · have hj' : j < len := by omega
          have := hF j hj'
          rw [add_plain, add_plain] at this
          have e : ((List.range len).map F).getD j (0, 0) = F j := by simp [List.getD_eq_getElem?_getD, hj']
          rw [e]
          exact ⟨this.1, by simpa [Nat.add_assoc] using this.2⟩
      · have : len = 0 := by omega
        subst this
        exact ⟨some a, cap, 0, 0, by simp, fun h => absurd h (by simp), fun j hj => absurd hj (by simp)⟩
    · have := bulkAll_len ((List.range len).map fun i => DataW.agg (H := H) [D0 i, D1 i])
      simp only [Rows.uptoBulk]
      simp only [List.length_map, List.length_range] at this ⊢
      omega

/-- all lists of a function are at most N long. -/
def FnSmall (N : Nat) (f : Pu.Fn) : Prop := f.params.length ≤ N ∧ f.results.length ≤ N ∧ f.locals.length ≤ N ∧ f.code.length ≤ N

theorem read_fn {fuel : Nat} {c0 c1 c2 c3 : Value} {x : DataW H × List MemPlace} (h : DataW.trod enc Try.prog w 0 spare held fuel 86 [c0, c1, c2, c3] = some x) :
    ∃ f, FnR w w.heap.size ⟨c0, c1, c2, c3⟩ f ∧ FnSmall (Rows.uptoBulk x.1) f := by
  obtain ⟨y0, y1, y2, y3, n, rfl, _, h0, h1, h2, h3⟩ := trod_struct4 Try.underlying86 h
  simp only [Try.cells30, Try.cells76, List.drop_zero, List.drop_succ_cons, List.take_succ_cons, List.take_zero] at h0 h1 h2 h3
  obtain ⟨l0, r0, m0, b0⟩ := read_ints h0
  obtain ⟨l1, r1, m1, b1⟩ := read_ints h1
  obtain ⟨l2, r2, m2, b2⟩ := read_ints h2
  obtain ⟨l3, r3, m3, b3⟩ := read_code h3
  refine ⟨⟨l0, l1, l2, l3⟩, ⟨r0, r1, r2, r3, m0, m1, m2, m3⟩, ?_⟩
  simp only [FnSmall, Rows.uptoBulk, Rows.uptoBulkAll]
  omega

theorem read_fns {fuel : Nat} {v : Value} {x : DataW H × List MemPlace} (h : DataW.trod enc Try.prog w 0 spare held fuel 31 [v] = some x) :
    ∃ fs, FnsR w w.heap.size v fs ∧ fs.length ≤ maxLen ∧ fs.length ≤ Rows.uptoBulk x.1 ∧ ∀ f ∈ fs, FnSmall (Rows.uptoBulk x.1) f := by
  rcases open_slice Try.underlying31 h with ⟨hcs, rfl⟩ | ⟨a, len, cap, m, n, D, Pl, hcs, _, hl, hm, hmm, rfl, hx⟩
  · simp only [List.cons.injEq, and_true] at hcs
    subst hcs
    exact ⟨[], ⟨none, 0, 0, 0, rfl, fun h => absurd h (by simp), fun j hj => absurd hj (by simp)⟩, by simp, by simp, by simp⟩
  · simp only [List.cons.injEq, and_true] at hcs
    subst hcs
    have hlm : len ≤ m := by rw [hmm]; split <;> omega
    have each : ∀ i, i < len → ∃ y : Pu.Fn, ∃ z : FV, w.cell? (a.add (i * 4)) = some z.p ∧ w.cell? (a.add (i * 4 + 1)) = some z.r ∧ w.cell? (a.add (i * 4 + 2)) = some z.l ∧ w.cell? (a.add (i * 4 + 3)) = some z.c ∧ FnR w w.heap.size z y ∧ FnSmall (Rows.uptoBulk (D i)) y := by
      intro i hi
      obtain ⟨cs', h1, h2⟩ := hx i (by omega)
      rw [Try.cells86] at h1
      obtain ⟨_, hlen, hcell⟩ := World.cells?_some h1
      match cs', hlen with
      | [c0, c1, c2, c3], _ =>
        obtain ⟨f, hf, hs⟩ := read_fn h2
        have e0 := hcell 0 (by omega)
        have e1 := hcell 1 (by omega)
        have e2 := hcell 2 (by omega)
        have e3 := hcell 3 (by omega)
        rw [Go.Deep.add_add] at e0 e1 e2 e3
        exact ⟨f, ⟨c0, c1, c2, c3⟩, by simpa using e0, by simpa using e1, by simpa using e2, by simpa using e3, hf, hs⟩
    have : Inhabited Pu.Fn := ⟨⟨[], [], [], []⟩⟩
    obtain ⟨F, hF⟩ := choose_lt each
    have hlen : ((List.range len).map F).length = len := by simp
    refine ⟨(List.range len).map F, ?_, by omega, ?_, ?_⟩
    · by_cases h0 : 0 < len
      · obtain ⟨z, g0, _⟩ := hF 0 h0
        obtain ⟨b, off, rfl⟩ := spot_none (a := a) (by simpa using g0)
        refine ⟨some ⟨b, off, none⟩, cap, b, off, by rw [hlen], fun _ => ⟨rfl, ?_⟩, fun j hj => ?_⟩
        · have := World.block_lt_of_cell? w _ g0
          rw [add_plain] at this
          exact this
        · have hj' : j < len := by omega
          obtain ⟨z, g0, g1, g2, g3, hz, _⟩ := hF j hj'
          rw [add_plain] at g0 g1 g2 g3
          have e : ((List.range len).map F).getD j ⟨[], [], [], []⟩ = F j := by simp [List.getD_eq_getElem?_getD, hj']
          rw [e]
          exact ⟨z, g0, by simpa [Nat.add_assoc] using g1, by simpa [Nat.add_assoc] using g2, by simpa [Nat.add_assoc] using g3, hz⟩
      · have : len = 0 := by omega
        subst this
        exact ⟨some a, cap, 0, 0, by simp, fun h => absurd h (by simp), fun j hj => absurd hj (by simp)⟩
    · have := bulkAll_len ((List.range len).map D)
      simp only [Rows.uptoBulk]
      simp only [List.length_map, List.length_range] at this ⊢
      omega
    · intro f hf
      obtain ⟨i, hi, rfl⟩ := List.mem_map.1 hf
      have hi' : i < len := by simpa using hi
      obtain ⟨z, _, _, _, _, _, hs⟩ := hF i hi'
      have hb := bulk_mem (d := D i) (l := (List.range len).map D) (List.mem_map.2 ⟨i, hi, rfl⟩)
      simp only [FnSmall, Rows.uptoBulk] at hs ⊢
      omega

set_option maxRecDepth 100000 in
/-- A MODULE THAT CAME IN. -/
theorem read_module {r : Reach} {b0 : Nat} {v : Value} {d : DataW H} {p : List MemPlace} (hv : Value.okWide Try.prog w r b0 33 v) (h : DataW.Trod enc Try.prog w 0 spare held 33 v d p) :
    ∃ k u m, v = .agg #[k, u] ∧ MdR w w.heap.size k u m ∧ m.kinds.length ≤ Rows.uptoBulk d ∧ m.funcs.length ≤ Rows.uptoBulk d ∧ ∀ f ∈ m.funcs, FnSmall (Rows.uptoBulk d) f := by
  obtain ⟨c0, c1, y0, y1, n, rfl, rfl, rfl, h0, h1⟩ := open_agg2 Try.underlying33 (by kernel_rfl) Try.cells33 hv h
  obtain ⟨l, r0, m0, b0⟩ := read_ints h0
  obtain ⟨fs, r1, m1, b1, s1⟩ := read_fns h1
  refine ⟨c0, c1, ⟨l, fs⟩, rfl, ⟨r0, r1, m0, m1⟩, ?_, ?_, ?_⟩
  · simp only [Rows.uptoBulk, Rows.uptoBulkAll]; omega
  · simp only [Rows.uptoBulk, Rows.uptoBulkAll]; omega
  · intro f hf
    have := s1 f hf
    simp only [FnSmall, Rows.uptoBulk, Rows.uptoBulkAll] at this ⊢
    omega
end
end Go.Proofs.Ytjamgmbdilkbcaa

/- Deals that came in, opened. -/
namespace Go.Proofs.Ytjamgmbdilkbcaa
open Go.ChangeShapes Go.WideShapes Go.ChangeAt Go.RowKit Go.Deep Go.Joins

theorem Try.cells106 : Try.prog.cellsOf 106 = 4 := by kernel_rfl

section
variable {H : Type} {enc : TypeId × Value → H} {w : World} {spare : Nat → Bool} {held : Bool}
theorem wf_i64 {n : Int} (h : (Lit.int .i64 n).wf = true) : I64 n := by
  simp only [Lit.wf, Bool.and_eq_true, decide_eq_true_eq] at h
  exact h
theorem read_deals {fuel : Nat} {v : Value} {x : DataW H × List MemPlace} (h : DataW.trod enc Try.prog w 0 spare held fuel 41 [v] = some x) :
    ∃ ds, DealsR w w.heap.size v ds ∧ ds.length ≤ maxLen := by
  rcases open_slice Try.underlying41 h with ⟨hcs, rfl⟩ | ⟨a, len, cap, m, n, D, Pl, hcs, _, hl, hm, hmm, rfl, hx⟩
  · simp only [List.cons.injEq, and_true] at hcs
    subst hcs
    exact ⟨[], ⟨none, 0, 0, 0, rfl, fun h => absurd h (by simp), fun j hj => absurd hj (by simp)⟩, by simp⟩
  · simp only [List.cons.injEq, and_true] at hcs
    subst hcs
    have hlm : len ≤ m := by rw [hmm]; split <;> omega
    have each : ∀ i, i < len → ∃ y : Dl, w.cell? (a.add (i * 4)) = some (.int .i64 y.what) ∧ w.cell? (a.add (i * 4 + 1)) = some (.int .i64 y.who) ∧ w.cell? (a.add (i * 4 + 2)) = some (.int .i64 y.to) ∧ w.cell? (a.add (i * 4 + 3)) = some (.int .i64 y.n) ∧ I64 y.what ∧ I64 y.who ∧ I64 y.to ∧ I64 y.n := by
      intro i hi
      obtain ⟨cs', h1, h2⟩ := hx i (by omega)
      rw [Try.cells106] at h1
      obtain ⟨_, hlen, hcell⟩ := World.cells?_some h1
      match cs', hlen with
      | [c0, c1, c2, c3], _ =>
        obtain ⟨y0, y1, y2, y3, n', _, _, t0, t1, t2, t3⟩ := trod_struct4 Try.underlying106 h2
        simp only [Try.cells3, List.drop_zero, List.drop_succ_cons, List.take_succ_cons, List.take_zero] at t0 t1 t2 t3
        obtain ⟨n0, e0, _, f0⟩ := DataW.trod_int Try.underlying3 t0
        obtain ⟨n1, e1, _, f1⟩ := DataW.trod_int Try.underlying3 t1
        obtain ⟨n2, e2, _, f2⟩ := DataW.trod_int Try.underlying3 t2
        obtain ⟨n3, e3, _, f3⟩ := DataW.trod_int Try.underlying3 t3
        simp only [List.cons.injEq, and_true] at e0 e1 e2 e3
        subst e0 e1 e2 e3
        have g0 := hcell 0 (by omega)
        have g1 := hcell 1 (by omega)
        have g2 := hcell 2 (by omega)
        have g3 := hcell 3 (by omega)
        rw [Go.Deep.add_add] at g0 g1 g2 g3
        exact ⟨⟨n0, n1, n2, n3⟩, by simpa using g0, by simpa using g1, by simpa using g2, by simpa using g3, wf_i64 f0, wf_i64 f1, wf_i64 f2, wf_i64 f3⟩
    have : Inhabited Dl := ⟨⟨0, 0, 0, 0⟩⟩
    obtain ⟨F, hF⟩ := choose_lt each
    have hlen : ((List.range len).map F).length = len := by simp
    refine ⟨(List.range len).map F, ?_, by omega⟩
    by_cases h0 : 0 < len
    · obtain ⟨g0, _⟩ := hF 0 h0
      obtain ⟨b, off, rfl⟩ := spot_none (a := a) (by simpa using g0)
      refine ⟨some ⟨b, off, none⟩, cap, b, off, by rw [hlen], fun _ => ⟨rfl, ?_⟩, fun j hj => ?_⟩
      · have := World.block_lt_of_cell? w _ g0
        rw [add_plain] at this
        exact this
      · have hj' : j < len := by omega
        obtain ⟨g0, g1, g2, g3, hz⟩ := hF j hj'
        rw [add_plain] at g0 g1 g2 g3
        have e : ((List.range len).map F).getD j ⟨0, 0, 0, 0⟩ = F j := by simp [List.getD_eq_getElem?_getD, hj']
        rw [e]
        exact ⟨g0, by simpa [Nat.add_assoc] using g1, by simpa [Nat.add_assoc] using g2, by simpa [Nat.add_assoc] using g3, hz⟩
    · have : len = 0 := by omega
      subst this
      exact ⟨some a, cap, 0, 0, by simp, fun h => absurd h (by simp), fun j hj => absurd hj (by simp)⟩
end
end Go.Proofs.Ytjamgmbdilkbcaa
