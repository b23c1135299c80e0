import Derived.Test.YtjamgmbdilkbcaaGreatLotLedgers50
import Derived.Test.YtjamgmbdilkbcaaGreatLotLedgers51
import Derived.Carry
/- Ledgers: the statement. -/
namespace Go.Proofs.YtjamgmbdilkbcaaGreat.ledgers
open Go.ChangeShapes Go.WideShapes Go.ChangeAt Go.RowKit Go.Deep Go.Joins

theorem own : ownKnob Tryz.prog.godebug = none := by kernel_rfl
theorem laidOut : laidOutB Tryz.prog = true := by kernel_rfl
set_option maxRecDepth 100000 in
theorem lifted (os : Os) (started : os.Started) (H : Type) (enc : TypeId × Value -> H) :
    ReturnsInHanded {} Tryz.checked os 3 .any (Rows.ledgersSpec.pre6 enc Tryz.prog Tryz.f3 Rows.ledgersRow.domain false) (Rows.ledgersSpec.post enc Tryz.prog Tryz.f3 false true false false) := by
  refine returnsInHanded_of_change_sized (C := Tryz.checked) own started (by kernel_rfl) Tryz.func3
    (ChangeSpec.witness6 (enc := enc) (C := Tryz.checked) false ⟨#[], #[.slice none 0 0], []⟩ 8 (by kernel_rfl) (by kernel_rfl) (by kernel_rfl) (by kernel_rfl)) ?_
  intro W base args ds gs before hval0 hW _ hz _
  have hval : ∀ (j : Nat) t v, Tryz.f3.params[j]? = some t -> args[j]? = some v -> Value.okWide Tryz.prog W .any base t v := hval0
  have hW' := hW
  obtain ⟨p, q, hA0, hV, rfl, hfz, hnd⟩ := hW
  have hA : DataW.TrodAll enc Tryz.prog W 0 (fun _ => true) true Tryz.f3.params.toList args.toList ds p := hA0
  have hz' : (DataW.weightsEach Tryz.prog (Tryz.f3.params.toList ++ Rows.ledgersSpec.plain.varTypes Tryz.prog) (ds ++ gs)).all (· <= reachBytes) = true := hz
  rw [Tryz.params3] at hA hval hz'
  obtain ⟨v0, vs0, d0, ds0, p0, q0, hargs, rfl, rfl, h0, r0⟩ := trodAll_cons hA
  obtain ⟨rfl, rfl, rfl⟩ := trodAll_nil r0
  obtain rfl : args = #[v0] := by cases args; simp_all
  obtain ⟨rfl, rfl⟩ := trodVars_none hV
  have hlt : ∀ x ∈ p0, x.block < W.heap.size := fun x hx => hW'.lt x (by simp [hx])
  obtain ⟨a0, len, cap, rfl⟩ := okWide_slice Tryz.underlying22 (hval 0 22 v0 rfl rfl)
  obtain ⟨fuel, hf⟩ := id h0
  obtain ⟨ops, es, ho, hlen, hok, _, hsl⟩ := La.read_ops (by simpa [Value.cells] using hf)
  have hn : ops.length <= 9000000000000 := by
    rcases hsl with ⟨_, rfl⟩ | ⟨sp, hd⟩
    · simp
    · simp only at hd
      have := sized_slice hz' (j := 0) (t := 22) (e := 40) (elems := es) (spare := sp) rfl (by simp [hd]) Tryz.underlying22
      rw [La.Tryz.bytes40] at this
      unfold reachBytes at this
      omega
  clear hA0 hval0
  simp only [List.append_nil] at hW'
  refine (La.ledgers_walk ops _ W ho hn (fun o hm => ?_)).mono fun e W' ⟨he, hg⟩ => ?_
  · obtain ⟨j, hj, rfl⟩ := List.getElem_of_mem hm
    have := hok j _ (es[j]'(by omega)) (List.getElem?_eq_getElem hj) (List.getElem?_eq_getElem (by omega))
    exact ⟨this.k, this.s, this.shape⟩
  · subst he
    refine ⟨_, rfl, _, _, _, [], p0 ++ [], [], hW', ?_, ?_, rfl, hg.frame _, fun h => by cases h⟩
    · exact trodAll_cons_mk (shut_bool Tryz.underlying4 _) trodAll_mk0
    · exact trodAll_cons_mk (Below.trod laidOut (by kernel_rfl) (of_decide_eq_true (by kernel_rfl)) h0 hg hlt) trodAll_mk0
theorem over : Rows.ledgersRow.holds Tryz.pinned (OpenSpec.ofChange Rows.ledgersSpec) :=
  OpenClaim.holds_of_wide 3 Tryz.f3 rfl rfl rfl rfl rfl rfl rfl ⟨rfl, rfl, rfl, rfl, rfl⟩ rfl rfl rfl rfl rfl (by kernel_rfl) Tryz.func3 (by kernel_rfl)
    (of_decide_eq_true (by kernel_rfl)) (by unfold Func.isWrapper; first | (rw [if_pos (by decide +kernel)]; kernel_rfl) | (rw [if_neg (by decide +kernel)]; exact ⟨rfl, rfl⟩))
    (fun os started H enc _ => lifted os started H enc)
end Go.Proofs.YtjamgmbdilkbcaaGreat.ledgers
namespace Go.Proofs.YtjamgmbdilkbcaaGreat
theorem ledgers_proved : Rows.LedgersSaid := ledgers.over
#print axioms ledgers_proved
end Go.Proofs.YtjamgmbdilkbcaaGreat
