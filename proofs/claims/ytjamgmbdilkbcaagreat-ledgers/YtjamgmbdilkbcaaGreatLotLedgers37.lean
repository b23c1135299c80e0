import Derived.Test.YtjamgmbdilkbcaaGreatLotLedgers36
/- Calls, by the document and by the program. No program here. -/
namespace Go.Proofs.YtjamgmbdilkbcaaGreat
open Go.RowKit Mc

namespace Dr
section
variable {m : Pu.Md} {f : Pu.Fn} {s s' : Fl.S} {r : Rm} {F : Fv} {g : Gg} {A : Nat -> Bool × Int}

theorem sim_args (ps : List Int) (hp : ps.length <= 8) : ∀ (k : Nat), k <= ps.length -> ∀ {s s' : Fl.S} {r : Rm} {F G : Fv} {l : List (Int × Int)}, RR f s r F -> g.err = 0 -> Fl.takesS (ps.take k).reverse s = some s' ->
    ∃ vs r', vs.length = k /\ (∀ v ∈ vs, Num v) /\ args ps k g r l = ((ps.take k).zip vs ++ l, g, r') /\ RR f s' r' (Fv.args k F G).1 /\ (Fv.args k F G).2 = { G with plc := fun j => if j < k then vs.getD j 0 else G.plc j }
  | 0, _, s, s', r, F, G, l, h, he, ht => by
    simp only [List.take_zero, List.reverse_nil, Fl.takesS, Option.some.injEq] at ht
    subst ht
    exact ⟨[], r, rfl, by simp, by simp [args], h, by simp [Fv.args]⟩
  | k + 1, hk, s, s', r, F, G, l, h, he, ht => by
    have ek : ps.take (k + 1) = ps.take k ++ [ps.getD k 0] := by
      rw [List.take_add_one, List.getElem?_eq_getElem (by omega), List.getD_eq_getElem?_getD, List.getElem?_eq_getElem (by omega)]
      rfl
    rw [ek] at ht
    simp only [List.reverse_append, List.reverse_cons, List.reverse_nil, List.nil_append, List.cons_append, Fl.takesS] at ht
    cases h1 : Fl.takeS (ps.getD k 0) s with
    | none => rw [h1] at ht; simp at ht
    | some u =>
      rw [h1] at ht
      simp only [Option.bind_some] at ht
      obtain ⟨a1, a2, a3, _⟩ := h.take he h1
      obtain ⟨vs, r', b1, b2, b3, b4, b5⟩ := sim_args ps hp k (by omega) (G := G.keep k F.top) (l := (ps.getD k 0, F.top) :: l) a3 he ht
      refine ⟨vs ++ [F.top], r', by simp [b1], fun v hv => ?_, ?_, b4, ?_⟩
      · rcases List.mem_append.1 hv with hv | hv
        · exact b2 v hv
        · simp only [List.mem_singleton] at hv; subst hv; exact a2
      · show args ps k (take (ps.getD k 0) g r).2.1 (take (ps.getD k 0) g r).2.2 ((ps.getD k 0, (take (ps.getD k 0) g r).1) :: l) = _
        rw [a1]
        simp only
        rw [b3, ek, List.zip_append (by simp [b1]; omega)]
        simp
      · show (Fv.args k F.pop (G.keep k F.top)).2 = _
        rw [b5]
        have hG : G.keep (k : Int) F.top = { G with plc := fun j => if j = k then F.top else G.plc j } := by unfold Fv.keep; rw [if_neg (by omega)]; rfl
        rw [hG]
        simp only [Fv.mk.injEq, true_and]
        funext j
        by_cases h2 : j < k
        · rw [if_pos h2, if_pos (by omega), List.getD_eq_getElem?_getD, List.getD_eq_getElem?_getD, List.getElem?_append_left (by omega)]
        · rw [if_neg h2]
          by_cases h3 : j = k
          · rw [if_pos h3, if_pos (by omega), List.getD_eq_getElem?_getD, List.getElem?_append_right (by omega), h3, b1]
            simp
          · rw [if_neg h3, if_neg (by omega)]
theorem sim_puts : ∀ (out : List (Int × Int)) {s s' : Fl.S} {r : Rm} {F : Fv}, RR f s r F -> g.err = 0 -> (∀ v ∈ out, Num v.2) -> Fl.putsS (out.map Prod.fst) s = some s' ->
    ∃ r', puts out g r = (g, r') /\ RR f s' r' (Fv.putAll (out.map Prod.snd) F)
  | [], s, s', r, F, h, _, _, ht => by
    simp only [List.map_nil, Fl.putsS, Option.some.injEq] at ht
    subst ht
    exact ⟨r, rfl, h⟩
  | v :: l, s, s', r, F, h, he, hn, ht => by
    simp only [List.map_cons, Fl.putsS] at ht
    cases h1 : Fl.putS v.1 s with
    | none => rw [h1] at ht; simp at ht
    | some u =>
      rw [h1] at ht
      simp only [Option.bind_some] at ht
      obtain ⟨a1, a2⟩ := h.put he (hn v (by simp)) h1
      obtain ⟨r', b1, b2⟩ := sim_puts l a2 he (fun x hx => hn x (by simp [hx])) ht
      refine ⟨r', ?_, b2⟩
      show puts l (put v.1 v.2 g r).1 (put v.1 v.2 g r).2 = _
      rw [a1]
      exact b1
theorem sim_room (c : Pu.Fn) (hp : c.params.length <= 8) (hpl : (Fl.places c).length <= 8) (vs : List Int) (hv : vs.length = c.params.length) (hn : ∀ v ∈ vs, Num v) :
    RR c (Fl.init c) (room c (c.params.zip vs)) { Fv.fresh c.code with plc := fun j => if j < c.params.length then vs.getD j 0 else 0 } := by
  have hz : (c.params.zip vs).length = c.params.length := by simp [hv]
  have hsp : (room c (c.params.zip vs)).spots = (c.params.zip vs).map (fun v => (true, v.1, v.2)) ++ c.locals.map (fun _ => noSpot) := rfl
  have get1 : ∀ i, i < c.params.length -> (room c (c.params.zip vs)).spots.getD i noSpot = (true, c.params.getD i 0, vs.getD i 0) := fun i hi => by
    have i2 : i < (List.map (fun v : Int × Int => (true, v.1, v.2)) (c.params.zip vs)).length := by rw [List.length_map, hz]; exact hi
    have hiv : i < vs.length := by omega
    rw [hsp, List.getD_eq_getElem?_getD, List.getElem?_append_left i2, List.getElem?_eq_getElem i2]
    simp [List.getD_eq_getElem?_getD, hi, hiv]
  have get2 : ∀ i, c.params.length <= i -> (room c (c.params.zip vs)).spots.getD i noSpot = noSpot := fun i hi => by
    rw [hsp, List.getD_eq_getElem?_getD, List.getElem?_append_right (by simp [hz]; omega)]
    simp only [List.length_map, hz, List.getElem?_map]
    cases c.locals[i - c.params.length]? <;> rfl
  have fi : ∀ i, (Fl.init c).full.getD i false = decide (i < c.params.length) := fun i => by
    unfold Fl.init
    simp only [List.getD_eq_getElem?_getD]
    by_cases hi : i < c.params.length
    · rw [List.getElem?_append_left (by simpa using hi)]
      simp [hi]
    · rw [List.getElem?_append_right (by simpa using hi)]
      simp only [List.length_replicate, List.getElem?_replicate, hi, decide_false]
      split <;> rfl
  refine ⟨rfl, rfl, rfl, by rw [hsp]; simp [hz, Fl.places], fun i hi => ?_, fun i hi hf => ?_, fun v hv => by simp [room] at hv, fun v hv => ?_, by simp [Fl.init], by simp [Fl.init]; omega, hpl, rfl⟩
  · rw [fi]
    by_cases h2 : i < c.params.length
    · rw [get1 i h2]; simp [h2]
    · rw [get2 i (by omega)]; simp [noSpot, h2]
  · rw [fi] at hf
    have h2 : i < c.params.length := by simpa using hf
    rw [get1 i h2]
    simp [h2]
  · rw [hsp] at hv
    rcases List.mem_append.1 hv with hv | hv
    · obtain ⟨x, hx, rfl⟩ := List.mem_map.1 hv
      exact hn x.2 (List.of_mem_zip hx).2
    · obtain ⟨x, _, rfl⟩ := List.mem_map.1 hv
      exact ⟨by decide, by decide⟩
end

def Leads (m : Pu.Md) (who gas : Int) (V V' : Vm) : Prop := ∃ j : Nat, V'.used = V.used + j /\ ∀ n, Vm.go m who gas (n + j) V = Vm.go m who gas n V'
section
variable {m : Pu.Md} {who gas : Int} {V V' V'' : Vm}
theorem Leads.refl : Leads m who gas V V := ⟨0, by simp, fun _ => rfl⟩
theorem Leads.trans (h : Leads m who gas V V') (k : Leads m who gas V' V'') : Leads m who gas V V'' := by
  obtain ⟨i, h1, h2⟩ := h
  obtain ⟨j, k1, k2⟩ := k
  exact ⟨j + i, by omega, fun n => by rw [<- Nat.add_assoc, h2, k2]⟩
theorem Leads.one (ho : V.over = false) (hu : V.used < gas) (hs : Vm.step m who V.tick = V') (hv : V'.used = V.used + 1) : Leads m who gas V V' := by
  refine ⟨1, by omega, fun n => ?_⟩
  show (if V.over = true \/ ¬ V.used < gas then V else Vm.go m who gas n (V.tick.step m who)) = _
  rw [if_neg (by rw [ho]; simp; exact hu), hs]
end
theorem go_err {m : Pu.Md} {who gas : Int} {f : Pu.Fn} {a : Int} {g : Gg} {r : Rm} (h : g.err ≠ 0) : ∀ n, go m who gas n f a g r = ([], g)
  | 0 => rfl
  | n + 1 => by unfold go; rw [if_pos h]
def Ends (f : Pu.Fn) (rest : List Fv) (gas : Int) (p : List (Int × Int) × Gg) (V : Vm) : Prop :=
  (p.2.err = 0 /\ p.2.code = 0 /\ p.2.used = V.used /\ p.2.depth = rest.length /\ p.1.map Prod.fst = f.results /\ (∀ v ∈ p.1, Num v.2) /\ HA p.2.holds V.acc /\ V.err = 0 /\ V.code = 0 /\ (rest = [] -> V.over = true) /\ (∀ G gs, rest = G :: gs -> V.over = false /\ V.fs = Fv.putAll (p.1.map Prod.snd) G :: gs)) \/
  (p.1 = [] /\ p.2.err ≠ 0 /\ p.2.used = V.used /\ V.over = true /\ V.err = p.2.err /\ V.code = p.2.code) \/
  (p.1 = [] /\ p.2.err = 5 /\ p.2.code = 0 /\ p.2.used = V.used /\ V.over = false /\ V.used = gas /\ V.err = 0 /\ V.code = 0)
end Dr
end Go.Proofs.YtjamgmbdilkbcaaGreat
