import Derived.Test.YtjamgmbdilkbcaaGreatLotLedgers50
import Derived.SizedLaws
/- A script of calls that came in, opened. -/
namespace Go.Proofs.YtjamgmbdilkbcaaGreat
open Go.ChangeShapes Go.WideShapes Go.ChangeAt Go.RowKit Go.Deep Go.Joins

namespace La
theorem Tryz.cells40 : Tryz.prog.cellsOf 40 = 7 := by kernel_rfl
theorem Tryz.cells9 : Tryz.prog.cellsOf 9 = 1 := by kernel_rfl
theorem Tryz.bytes40 : Tryz.prog.bytesOf 40 = 96 := by kernel_rfl
section
variable {H : Type} {P : Program} {enc : TypeId × Value -> H} {w : World} {base : Nat} {spare : Nat -> Bool} {held : Bool}
theorem trod_struct6 {t : TypeId} {f0 f1 f2 f3 f4 f5 : Field} {fuel : Nat} {cs : List Value} {x : DataW H × List MemPlace} (ht : P.underlying t = some (.struct #[f0, f1, f2, f3, f4, f5])) (h : DataW.trod enc P w base spare held fuel t cs = some x) :
    ∃ y0 y1 y2 y3 y4 y5 n, x.1 = .agg [y0.1, y1.1, y2.1, y3.1, y4.1, y5.1] /\ DataW.trod enc P w base spare held n f0.type ((cs.drop f0.offset).take (P.cellsOf f0.type)) = some y0 /\
      DataW.trod enc P w base spare held n f1.type ((cs.drop f1.offset).take (P.cellsOf f1.type)) = some y1 /\ DataW.trod enc P w base spare held n f2.type ((cs.drop f2.offset).take (P.cellsOf f2.type)) = some y2 /\
      DataW.trod enc P w base spare held n f3.type ((cs.drop f3.offset).take (P.cellsOf f3.type)) = some y3 /\ DataW.trod enc P w base spare held n f4.type ((cs.drop f4.offset).take (P.cellsOf f4.type)) = some y4 /\
      DataW.trod enc P w base spare held n f5.type ((cs.drop f5.offset).take (P.cellsOf f5.type)) = some y5 := by
  obtain ⟨xs, n, _, rfl, hl, hlen, hf⟩ := DataW.trod_struct ht h
  match xs, hlen with
  | [y0, y1, y2, y3, y4, y5], _ => exact ⟨y0, y1, y2, y3, y4, y5, n, by simp, by simpa using hf 0 f0 rfl, by simpa using hf 1 f1 rfl, by simpa using hf 2 f2 rfl, by simpa using hf 3 f3 rfl, by simpa using hf 4 f4 rfl, by simpa using hf 5 f5 rfl⟩
end

section
variable {H : Type} {enc : TypeId × Value -> H} {w : World} {spare : Nat -> Bool} {held : Bool}
theorem wf_i64 {n : Int} (h : (Lit.int .i64 n).wf = true) : I64 n := by
  simp only [Lit.wf, Bool.and_eq_true, decide_eq_true_eq] at h
  exact h
structure OpOk (w : World) (o : OpV) (bulk : Nat) : Prop where
  k : I64 o.k
  s : o.s.size <= maxLen
  m : MdR w w.heap.size o.km o.vm o.m
  f : o.m.funcs.length <= bulk
  ks : o.m.kinds.length <= bulk
  fs : ∀ f ∈ o.m.funcs, FnSmall bulk f
theorem OpOk.shape {o : OpV} {bulk : Nat} (h : OpOk w o bulk) : ∃ x1 n1 y1 x2 n2 y2, o.km = .slice x1 n1 y1 /\ o.vm = .slice x2 n2 y2 := by
  obtain ⟨a1, c1, e1⟩ := h.m.k.shape
  obtain ⟨a2, c2, e2⟩ := h.m.v.shape
  exact ⟨a1, _, c1, a2, _, c2, e1, e2⟩
set_option maxRecDepth 100000 in
theorem read_ops {fuel : Nat} {v : Value} {x : DataW H × List MemPlace} (h : DataW.trod enc Tryz.prog w 0 spare held fuel 22 [v] = some x) :
    ∃ (ops : List OpV) (ds : List (DataW H)), OpsR w w.heap.size v ops /\ ds.length = ops.length /\ (∀ (j : Nat) (o : OpV) (d : DataW H), ops[j]? = some o -> ds[j]? = some d -> OpOk w o (Rows.uptoBulk d)) /\ Rows.uptoBulkAll ds <= Rows.uptoBulk x.1 /\ (x.1 = .nil /\ ops = [] \/ ∃ sp, x.1 = .slice ds sp) := by
  rcases open_slice Tryz.underlying22 h with ⟨hcs, rfl⟩ | ⟨a, len, cap, m, n, D, Pl, hcs, _, hl, hm, hmm, rfl, hx⟩
  · simp only [List.cons.injEq, and_true] at hcs
    subst hcs
    exact ⟨[], [], ⟨none, 0, 0, 0, rfl, fun h => absurd h (by simp), fun j hj => absurd hj (by simp)⟩, rfl, fun j o d ho _ => by simp at ho, by simp [Rows.uptoBulkAll], .inl ⟨rfl, rfl⟩⟩
  · simp only [List.cons.injEq, and_true] at hcs
    subst hcs
    have hlm : len <= m := by rw [hmm]; split <;> omega
    have each : ∀ i, i < len -> ∃ o : OpV, w.cell? (a.add (i * 7)) = some (.int .i64 o.kind) /\ w.cell? (a.add (i * 7 + 1)) = some (.int .i64 o.a) /\ w.cell? (a.add (i * 7 + 2)) = some (.int .i64 o.b) /\ w.cell? (a.add (i * 7 + 3)) = some (.int .i64 o.k) /\ w.cell? (a.add (i * 7 + 4)) = some (.string o.s) /\ w.cell? (a.add (i * 7 + 5)) = some o.km /\ w.cell? (a.add (i * 7 + 6)) = some o.vm /\ OpOk w o (Rows.uptoBulk (D i)) := by
      intro i hi
      obtain ⟨cs', h1, h2⟩ := hx i (by omega)
      rw [Tryz.cells40] at h1
      obtain ⟨_, hlen, hcell⟩ := World.cells?_some h1
      match cs', hlen with
      | [c0, c1, c2, c3, c4, c5, c6], _ =>
        obtain ⟨y0, y1, y2, y3, y4, y5, n', hD, t0, t1, t2, t3, t4, t5⟩ := trod_struct6 Tryz.underlying40 h2
        simp only [Tryz.cells3, Tryz.cells9, Tryz.cells38, List.drop_zero, List.drop_succ_cons, List.take_succ_cons, List.take_zero] at t0 t1 t2 t3 t4 t5
        obtain ⟨n0, e0, _, _⟩ := DataW.trod_int Tryz.underlying3 t0
        obtain ⟨n1, e1, _, _⟩ := DataW.trod_int Tryz.underlying3 t1
        obtain ⟨n2, e2, _, _⟩ := DataW.trod_int Tryz.underlying3 t2
        obtain ⟨n3, e3, _, f3⟩ := DataW.trod_int Tryz.underlying3 t3
        obtain ⟨s4, e4, _, f4⟩ := DataW.trod_string Tryz.underlying9 t4
        obtain ⟨z0, z1, n'', hz, _, u0, u1⟩ := trod_struct2 Tryz.underlying38 t5
        simp only [Tryz.cells35, Tryz.cells36, List.drop_zero, List.drop_succ_cons, List.take_succ_cons, List.take_zero] at u0 u1
        obtain ⟨l, r0, m0, b0⟩ := read_ints u0
        obtain ⟨fs, r1, m1, b1, sm1⟩ := read_fns u1
        simp only [List.cons.injEq, and_true] at e0 e1 e2 e3 e4
        subst e0 e1 e2 e3 e4
        have g0 := hcell 0 (by omega)
        have g1 := hcell 1 (by omega)
        have g2 := hcell 2 (by omega)
        have g3 := hcell 3 (by omega)
        have g4 := hcell 4 (by omega)
        have g5 := hcell 5 (by omega)
        have g6 := hcell 6 (by omega)
        rw [Go.Deep.add_add] at g0 g1 g2 g3 g4 g5 g6
        simp only at hD hz
        have hbk : Rows.uptoBulk z0.1 <= Rows.uptoBulk (D i) /\ Rows.uptoBulk z1.1 <= Rows.uptoBulk (D i) := by
          have e5 : y5.1 = .agg [z0.1, z1.1] := by rw [hz]
          rw [hD, e5]
          simp only [Rows.uptoBulk, Rows.uptoBulkAll]
          omega
        refine ⟨⟨n0, n1, n2, n3, s4, c5, c6, ⟨l, fs⟩⟩, by simpa using g0, by simpa using g1, by simpa using g2, by simpa using g3, by simpa using g4, by simpa using g5, by simpa using g6, ⟨wf_i64 f3, f4, ⟨r0, r1, m0, m1⟩, by show fs.length <= _; omega, by show l.length <= _; omega, fun f hf => ?_⟩⟩
        have := sm1 f hf
        unfold FnSmall at this ⊢
        omega
    have : Inhabited OpV := ⟨⟨0, 0, 0, 0, ⟨#[]⟩, .slice none 0 0, .slice none 0 0, ⟨[], []⟩⟩⟩
    obtain ⟨F, hF⟩ := choose_lt each
    have hlen : ((List.range len).map F).length = len := by simp
    refine ⟨(List.range len).map F, (List.range len).map D, ?_, by simp, ?_, ?_, .inr ⟨_, rfl⟩⟩
    · by_cases h0 : 0 < len
      · obtain ⟨g0, _⟩ := hF 0 h0
        obtain ⟨b, off, rfl⟩ := spot_none (a := a) (by simpa using g0)
        refine ⟨some ⟨b, off, none⟩, cap, b, off, by rw [hlen], fun _ => ⟨rfl, ?_⟩, fun j hj => ?_⟩
        · have := World.block_lt_of_cell? w _ g0
          rw [add_plain] at this
          exact this
        · have hj' : j < len := by omega
          obtain ⟨g0, g1, g2, g3, g4, g5, g6, hz⟩ := hF j hj'
          rw [add_plain] at g0 g1 g2 g3 g4 g5 g6
          exact ⟨F j, by simp [hj'], g0, by simpa [Nat.add_assoc] using g1, by simpa [Nat.add_assoc] using g2, by simpa [Nat.add_assoc] using g3, by simpa [Nat.add_assoc] using g4, by simpa [Nat.add_assoc] using g5, by simpa [Nat.add_assoc] using g6, hz.shape⟩
      · have : len = 0 := by omega
        subst this
        exact ⟨some a, cap, 0, 0, by simp, fun h => absurd h (by simp), fun j hj => absurd hj (by simp)⟩
    · intro j o d ho hd
      have hj : j < len := by
        have := (List.getElem?_eq_some_iff.1 ho).1
        simpa using this
      simp only [List.getElem?_map, List.getElem?_range hj, Option.map_some, Option.some.injEq] at ho hd
      rw [<- ho, <- hd]
      exact (hF j hj).2.2.2.2.2.2.2
    · simp only [Rows.uptoBulk]
      omega
end
end La
end Go.Proofs.YtjamgmbdilkbcaaGreat
