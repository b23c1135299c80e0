import Derived.Test.YtjamgmbdilkbcaaGreatLotLedgers31
/- A ledger; the run without the slices of the code. -/
namespace Go.Proofs.YtjamgmbdilkbcaaGreat
open Go.RowKit Mc

namespace Mc
def er (M : Mc) : Mc := { M with cv := fun _ => undef }
theorem er_setI (M : Mc) (i : Nat) (n : Int) : (M.setI i n).er = M.er.setI i n := rfl
theorem er_giveUp (M : Mc) (e : Int) : (M.giveUp e).er = M.er.giveUp e := rfl
theorem er_setA (M : Mc) (a b : Int) (c : Bool) (n : Int) : (M.setA a b c n).er = M.er.setA a b c n := rfl
theorem er_put (M : Mc) (d : Nat) (n : Int) : (M.put d n).er = M.er.put d n := by
  unfold put; show er (if M.hgt d < 16 then _ else _) = if M.hgt d < 16 then _ else _; split <;> rfl
theorem er_pop (M : Mc) (d : Nat) : (M.pop d).er = M.er.pop d := by
  unfold pop; show er (if M.hgt d < 1 then _ else _) = if M.hgt d < 1 then _ else _; split <;> rfl
theorem er_keep (M : Mc) (d : Nat) (p n : Int) : (M.keep d p n).er = M.er.keep d p n := by
  unfold keep; split <;> rfl
theorem er_top (M : Mc) (d : Nat) : M.er.top d = M.top d := rfl
theorem er_acc (M : Mc) : M.er.acc = M.acc := rfl
theorem er_who (M : Mc) : M.er.who = M.who := rfl
theorem er_setC (M : Mc) (d : Nat) (v : Value) (c : List (Int × Int)) : (M.setC d v c).er = M.er.setC d undef c := by
  unfold setC er
  simp only [Mc.mk.injEq, true_and, and_true]
  funext j
  split <;> rfl
theorem er_zeros : ∀ (n o : Nat) (M : Mc), (M.zeros o n).er = M.er.zeros o n
  | 0, _, _ => rfl
  | n + 1, o, M => er_zeros n (o + 1) (M.setI o 0)
theorem er_fresh (M : Mc) (d : Nat) (v : Value) (c : List (Int × Int)) : (M.fresh d v c).er = M.er.fresh d undef c := by
  unfold fresh; rw [er_zeros, er_setC]
theorem er_endN (M : Mc) (d : Nat) : ∀ k, (endN M d k).er = endN M.er d k
  | 0 => rfl
  | k + 1 => by
    show ((endN M d k).put (d - 1) ((endN M d k).stk d k)).er = (endN M.er d k).put (d - 1) ((endN M.er d k).stk d k)
    rw [er_put, <- er_endN M d k]
    rfl
theorem er_end (M : Mc) (d : Nat) : (M.end_ d).er = M.er.end_ d := by
  unfold end_
  split
  · rfl
  · rw [er_endN]; rfl
theorem er_begN (d : Nat) : ∀ (k : Nat) (M : Mc), (begN d k M).er = begN d k M.er
  | 0, _ => rfl
  | k + 1, M => by
    show (begN d k ((M.pop d).keep (d + 1) k (M.top d))).er = begN d k ((M.er.pop d).keep (d + 1) k (M.top d))
    rw [er_begN d k, er_keep, er_pop]
theorem er_begin (m : Pu.Md) (v : Value) (M : Mc) (d : Nat) (c : Int) : (Mc.begin m v M d c).er = Mc.begin m undef M.er d c := by
  unfold Mc.begin
  split
  · rfl
  split
  · rfl
  · rw [er_setI, er_begN, er_fresh]
theorem er_ite {p : Prop} [Decidable p] (a b : Mc) : er (if p then a else b) = if p then er a else er b := by split <;> rfl
theorem er_pop_top (M : Mc) (d : Nat) : (M.er.pop d).top d = (M.pop d).top d := by rw [<- er_pop, er_top]
theorem er_pop_acc (M : Mc) (d : Nat) : (M.er.pop d).acc = (M.pop d).acc := by rw [<- er_pop, er_acc]
theorem er_pop_acc2 (M : Mc) (d : Nat) : ((M.er.pop d).pop d).acc = ((M.pop d).pop d).acc := by rw [<- er_pop, <- er_pop, er_acc]
theorem er_held (M : Mc) (d : Nat) (p : Int) : M.er.heldAt d p = M.heldAt d p := rfl
theorem er_reckon (M : Mc) (d : Nat) (op : Int) : (M.reckon d op).er = M.er.reckon d op := by
  unfold reckon
  simp only [er_ite, er_giveUp, er_put, er_pop, er_pop_top, er_top]
theorem er_fetch (M : Mc) (d : Nat) (k : Int) : (M.fetch d k).er = M.er.fetch d k := by
  unfold fetch
  simp only [er_ite, er_giveUp, er_put, er_setA, er_acc, er_who]
  rfl
theorem er_store (M : Mc) (d : Nat) (k : Int) : (M.store d k).er = M.er.store d k := by
  unfold store
  simp only [er_ite, er_giveUp, er_setA, er_pop, er_pop_top, er_top, er_pop_acc2]
theorem er_has (M : Mc) (d : Nat) (k : Int) : (M.has d k).er = M.er.has d k := by
  unfold has
  simp only [er_ite, er_giveUp, er_put, er_pop, er_top, er_pop_acc]
theorem er_do (M : Mc) (d : Nat) (op a : Int) : (M.do_ d op a).er = M.er.do_ d op a := by
  unfold do_
  simp only [er_ite, er_setI, er_put, er_pop, er_keep, er_top, er_held]
  rfl
theorem er_act (m : Pu.Md) (xv : Nat -> Value) (M : Mc) (d : Nat) (x : Int × Int) : (act m xv M d x).er = act m (fun _ => undef) M.er d x := by
  unfold act
  simp only [er_ite, er_end, er_begin, er_reckon, er_fetch, er_store, er_has, er_do, er_giveUp, er_setI]
theorem er_step (m : Pu.Md) (xv : Nat -> Value) (M : Mc) : (step m xv M).er = step m (fun _ => undef) M.er := by
  unfold step
  simp only [er_ite, er_act, er_giveUp, er_setI]
  rfl
theorem er_go (m : Pu.Md) (xv : Nat -> Value) (gas : Int) : ∀ (n : Nat) (M : Mc), (go m xv gas n M).er = go m (fun _ => undef) gas n M.er
  | 0, _ => rfl
  | n + 1, M => by
    unfold go
    simp only [er_ite, er_go, er_step]
    rfl
theorem er_goOn (m : Pu.Md) (xv : Nat -> Value) (gas : Int) (M : Mc) : (goOn m xv gas M).er = goOn m (fun _ => undef) gas M.er := by
  unfold goOn
  rw [<- er_go]
  simp only [er_ite, er_giveUp]
  rfl
end Mc

def runM (m : Pu.Md) (f : Pu.Fn) (A : Nat -> Bool × Int) (who gas : Int) : Mc := Mc.goOn m (fun _ => undef) gas ((machine0 who A).er.fresh 0 undef f.code)
theorem runM_of (m : Pu.Md) (f : Pu.Fn) (A : Nat -> Bool × Int) (who gas : Int) (xv : Nat -> Value) (cv : Value) : (Mc.goOn m xv gas ((machine0 who A).fresh 0 cv f.code)).er = runM m f A who gas := by
  unfold runM; rw [er_goOn, er_fresh]
structure Lg (w : World) (q : Nat) (m : Pu.Md) (A : Nat -> Bool × Int) : Prop where
  ex : ∃ mk mv Hs, w.heap[q]? = some (.cells (#[mk, mv] ++ Hs) 108 (0, 0)) /\ RowA Hs A /\ MdR w q mk mv m
def RunSays (m : Pu.Md) (A : Nat -> Bool × Int) (b : ByteArray) (who gas : Int) (A' : Nat -> Bool × Int) (e c u : Int) : Prop :=
  ((who < 0 \/ 8 <= who \/ gas < 0 \/ 10000 < gas) /\ A' = A /\ e = 4 /\ c = 0 /\ u = 0) \/
  (¬ (who < 0 \/ 8 <= who \/ gas < 0 \/ 10000 < gas) /\ ¬ (readScript b m.kinds.length m.funcs.length).2 = 0 /\ A' = A /\ e = (readScript b m.kinds.length m.funcs.length).2 /\ c = 0 /\ u = 0) \/
  (¬ (who < 0 \/ 8 <= who \/ gas < 0 \/ 10000 < gas) /\ (readScript b m.kinds.length m.funcs.length).2 = 0 /\ ¬ Fl.Sound m (readScript b m.kinds.length m.funcs.length).1 /\ A' = A /\ e = 3 /\ c = 0 /\ u = 0) \/
  (¬ (who < 0 \/ 8 <= who \/ gas < 0 \/ 10000 < gas) /\ (readScript b m.kinds.length m.funcs.length).2 = 0 /\ Fl.Sound m (readScript b m.kinds.length m.funcs.length).1 /\
    A' = (if (runM m (readScript b m.kinds.length m.funcs.length).1 A who gas).err = 0 then (runM m (readScript b m.kinds.length m.funcs.length).1 A who gas).acc else A) /\
    e = (runM m (readScript b m.kinds.length m.funcs.length).1 A who gas).err /\ c = (runM m (readScript b m.kinds.length m.funcs.length).1 A who gas).code /\ u = (runM m (readScript b m.kinds.length m.funcs.length).1 A who gas).used)
def HeadKept (w w' : World) (q : Nat) : Prop := ∀ mk mv Hs, w.heap[q]? = some (.cells (#[mk, mv] ++ Hs) 108 (0, 0)) -> ∃ Hs', w'.heap[q]? = some (.cells (#[mk, mv] ++ Hs') 108 (0, 0))
theorem head_below {w w' : World} {q : Nat} (hb : Below w.heap.size w w') (hq : q < w.heap.size) : HeadKept w w' q := fun _ _ Hs h => ⟨Hs, (hb.block q hq).trans h⟩
theorem head_inj {a b mk mv : Value} {Hs Hs0 : Array Value} (h : #[a, b] ++ Hs = #[mk, mv] ++ Hs0) : a = mk /\ b = mv /\ Hs = Hs0 := by
  have h2 := congrArg Array.toList h
  simp only [Array.toList_append, List.cons_append, List.nil_append, List.cons.injEq] at h2
  exact ⟨h2.1, h2.2.1, Array.toList_inj.1 h2.2.2⟩
theorem head_of {w w' : World} {q : Nat} {a b : Value} {Hs HX : Array Value} (h : w.heap[q]? = some (.cells (#[a, b] ++ Hs) 108 (0, 0))) (h' : w'.heap[q]? = some (.cells (#[a, b] ++ HX) 108 (0, 0))) : HeadKept w w' q := fun mk mv Hs0 h0 => by
  rw [h] at h0
  simp only [Option.some.injEq, Obj.cells.injEq, and_true] at h0
  obtain ⟨rfl, rfl, _⟩ := head_inj h0
  exact ⟨HX, h'⟩
def RunOut (w w' : World) (q : Nat) (m : Pu.Md) (A : Nat -> Bool × Int) (b : ByteArray) (who gas : Int) (r : Ending) : Prop :=
  ∃ A' e c u, r = .returned (.agg #[.int .i64 e, .int .i64 c, .int .i64 u]) /\ RunSays m A b who gas A' e c u /\ Lg w' q m A' /\ w.grownBy w' (some q) /\ HeadKept w w' q
theorem isFn_ok {m : Pu.Md} {f : Pu.Fn} (hh : Pu.isFn f m.kinds.length m.funcs.length = true) : FnOk m f := by
  simp only [Pu.isFn, Pu.isList, Pu.isCode, Bool.and_eq_true, decide_eq_true_eq, List.all_eq_true] at hh
  obtain ⟨⟨p1, _⟩, ⟨r1, _⟩, ⟨l1, _⟩, c1, c2, c3⟩ := hh
  have hi : ∀ i, i < f.code.length -> Pu.isInstr m.kinds.length m.funcs.length ((f.params.length : Int) + (f.locals.length : Int)) f.code.length (f.code.getD i (0, 0)) = true := fun i hi => by
    refine c3 _ ?_
    rw [List.getD_eq_getElem?_getD, List.getElem?_eq_getElem hi]
    exact List.getElem_mem hi
  refine ⟨by unfold Fl.places; rw [List.length_append]; omega, by omega, by omega, fun i hil => ?_, fun i hil hop => ?_⟩
  · have hx := hi i hil
    generalize f.code.getD i (0, 0) = x at *
    simp only [Pu.isInstr, Bool.and_eq_true, decide_eq_true_eq] at hx
    obtain ⟨⟨⟨x1, x2⟩, x3⟩, x4⟩ := hx
    refine ⟨⟨x1, x2⟩, fun hop => ?_, fun hop => ?_⟩
    · unfold Pu.argLo at x3
      unfold Pu.argHi at x4
      rw [if_neg (by omega)] at x3
      rw [if_neg (by omega), if_neg (by omega), if_pos hop] at x4
      unfold Fl.places
      rw [List.length_append]
      omega
    · unfold Pu.argLo at x3
      unfold Pu.argHi at x4
      rw [if_neg (by omega)] at x3
      rw [if_neg (by omega), if_neg (by omega), if_neg (by omega), if_neg (by omega), if_pos hop] at x4
      omega
  · have hx := hi i hil
    generalize f.code.getD i (0, 0) = x at *
    simp only [Pu.isInstr, Bool.and_eq_true, decide_eq_true_eq] at hx
    obtain ⟨⟨⟨x1, x2⟩, x3⟩, x4⟩ := hx
    unfold Pu.argLo at x3
    rw [if_neg (by omega)] at x3
    exact x3
theorem script_ok {b : ByteArray} {m : Pu.Md} (h : (readScript b m.kinds.length m.funcs.length).2 = 0) : Pu.isFn (readScript b m.kinds.length m.funcs.length).1 m.kinds.length m.funcs.length = true := by
  unfold readScript at h ⊢
  split at h
  · exact absurd h (by decide)
  rename_i hl
  split at h
  · exact absurd h (by decide)
  rename_i hb
  rw [if_neg hl, if_neg hb]
  have h2 : (Pu.func b m.kinds.length m.funcs.length (0, false)).2.2 = false := by
    have : ¬ (Pu.atEnd b (Pu.func b m.kinds.length m.funcs.length (0, false)).2).2 = true := fun hh => hb (.inl hh)
    unfold Pu.atEnd at this
    split at this
    · exact absurd rfl this
    · simpa using this
  exact (Pu.func_ok h2).2.2
end Go.Proofs.YtjamgmbdilkbcaaGreat

/- Amount. -/
namespace Go.Proofs.YtjamgmbdilkbcaaGreat
open Go.RowKit Mc

section
variable {w : World} {q : Nat} {mk mv : Value} {Hs : Array Value} {t : TypeId} {fr' : Nat × Nat}
theorem led_c0 (h : w.heap[q]? = some (.cells (#[mk, mv] ++ Hs) t fr')) : w.cell? ⟨q, 0, none⟩ = some mk := by
  unfold World.cell?; simp only [h]; simp [Array.getElem?_append]
theorem led_c1 (h : w.heap[q]? = some (.cells (#[mk, mv] ++ Hs) t fr')) : w.cell? ⟨q, 1, none⟩ = some mv := by
  unfold World.cell?; simp only [h]; simp [Array.getElem?_append]
theorem led_row (h : w.heap[q]? = some (.cells (#[mk, mv] ++ Hs) t fr')) (i : Nat) : w.cell? ⟨q, 2 + i, none⟩ = Hs[i]? := by
  have e : (#[mk, mv] ++ Hs)[2 + i]? = Hs[i]? := by
    rw [Array.getElem?_append_right (by simp)]
    simp
  unfold World.cell?
  simp only [h]
  exact e
theorem led_acR (h : w.heap[q]? = some (.cells (#[mk, mv] ++ Hs) t fr')) {A : Nat -> Bool × Int} (hA : RowA Hs A) : AcR w q 2 A := fun j hj => by
  rw [led_row h, Nat.add_assoc, led_row h]; exact hA.2 j hj
theorem led_range (h : w.heap[q]? = some (.cells (#[mk, mv] ++ Hs) t fr')) : w.rangeAt q 2 Hs.toList := fun j v hv => by
  rw [led_row h]; simpa using hv
end

def ledAmount (m : Pu.Md) (A : Nat -> Bool × Int) (who kind : Int) : Int × Int := if kind < 1 \/ (m.kinds.length : Int) < kind then (0, 4) else amountS A who kind
set_option maxRecDepth 100000 in
set_option maxHeartbeats 1000000 in
theorem amount_any (q : Nat) (m : Pu.Md) (A : Nat -> Bool × Int) (who kind : Int) (w : World) (h : Lg w q m A) :
    Calls Tryz.prog 35 #[.pointer (some ⟨q, 0, none⟩), .int .i64 who, .int .i64 kind] w fun e w' => e = .returned (.tuple #[.int .i64 (ledAmount m A who kind).1, .int .i64 (ledAmount m A who kind).2]) /\ Below w.heap.size w w' := by
  obtain ⟨mk, mv, Hs, hb, hA, hm⟩ := h.ex
  obtain ⟨a1, c1, rfl⟩ := hm.k.shape
  have d0 := led_c0 hb
  have C := hid (mamount_any q 2 A who kind w (led_acR hb hA))
  have nk := hm.nk
  clear hm hb hA h
  unfold ledAmount
  by_cases h1 : kind < 1
  · rw [if_pos (.inl h1)]
    go_enter Tryz.func35, Tryz.ntmps35
    go_wp2
    go_ret2
    exact ⟨rfl, Below.refl _ _⟩
  · by_cases h2 : (m.kinds.length : Int) < kind
    · rw [if_pos (.inr h2)]
      go_enter Tryz.func35, Tryz.ntmps35
      go_wp2
      go_ret2
      exact ⟨rfl, Below.refl _ _⟩
    · rw [if_neg (by omega)]
      generalize amountS A who kind = S at C ⊢
      go_enter Tryz.func35, Tryz.ntmps35
      go_wp2_with fail
      refine C.out.mono ?_
      rintro e w1 ⟨rfl, hb1⟩
      clear C
      go_wp2
      go_ret2
      exact ⟨rfl, hb1⟩
theorem RowA.uniq {H : Array Value} {A : Nat -> Bool × Int} (h : RowA H A) : H = (rowOf A (List.range 48)).toArray := by
  have k := rowOf_is A
  apply Array.ext_getElem?
  intro i
  by_cases hi : i < 96
  · obtain ⟨h1, h2⟩ := h.2 (i / 2) (by omega)
    obtain ⟨k1, k2⟩ := k.2 (i / 2) (by omega)
    by_cases ho : i % 2 = 0
    · rw [show 2 * (i / 2) = i from by omega] at h1 k1
      rw [h1, k1]
    · rw [show 2 * (i / 2) + 1 = i from by omega] at h2 k2
      rw [h2, k2]
  · rw [Array.getElem?_eq_none (by rw [h.1]; omega), Array.getElem?_eq_none (by rw [k.1]; omega)]
def runA (m : Pu.Md) (f : Pu.Fn) (A : Nat -> Bool × Int) (who gas : Int) : Nat -> Bool × Int := if (runM m f A who gas).err = 0 then (runM m f A who gas).acc else A
theorem mscript_says (m : Pu.Md) (f : Pu.Fn) (a1 : Option Addr) (c1 : Nat) (a2 : Option Addr) (c2 : Nat) (x1 : Option Addr) (y1 : Nat) (x2 : Option Addr) (y2 : Nat) (x3 : Option Addr) (y3 : Nat) (x4 : Option Addr) (y4 : Nat) (Hs : Array Value) (A : Nat -> Bool × Int) (hA : RowA Hs A) (who gas : Int) (w : World)
    (hm : MdR w w.heap.size (.slice a1 m.kinds.length c1) (.slice a2 m.funcs.length c2) m) (hpar : ∀ f ∈ m.funcs, f.params.length <= 4) (hc : CodeR w w.heap.size (.slice x4 f.code.length y4) f.code) (hcl : f.code.length <= maxLen) (hml : ∀ g ∈ m.funcs, g.code.length <= maxLen) (hg : 0 <= gas /\ gas <= 10000) :
    Calls Tryz.prog 59 #[.agg #[.slice a1 m.kinds.length c1, .slice a2 m.funcs.length c2], .agg #[.slice x1 f.params.length y1, .slice x2 f.results.length y2, .slice x3 f.locals.length y3, .slice x4 f.code.length y4], .agg Hs, .int .i64 who, .int .i64 gas] w fun e w' =>
      e = .returned (.tuple #[.agg (rowOf (runA m f A who gas) (List.range 48)).toArray, .agg #[.int .i64 (runM m f A who gas).err, .int .i64 (runM m f A who gas).code, .int .i64 (runM m f A who gas).used]]) /\ Below w.heap.size w w' := by
  refine (mscript_any m f a1 c1 a2 c2 x1 y1 x2 y2 x3 y3 x4 y4 Hs A hA who gas w hm hpar hc hcl hml hg).mono ?_
  rintro e w' ⟨xv, cv, ML, HR, hML, rfl, hR, hb⟩
  have he := runM_of m f A who gas xv cv
  rw [<- hML] at he
  have e1 : (runM m f A who gas).err = ML.err := by rw [<- he]; rfl
  have e2 : (runM m f A who gas).code = ML.code := by rw [<- he]; rfl
  have e3 : (runM m f A who gas).used = ML.used := by rw [<- he]; rfl
  have e4 : (runM m f A who gas).acc = ML.acc := by rw [<- he]; rfl
  refine ⟨?_, hb⟩
  unfold runA
  rw [e1, e2, e3, e4, <- hR.uniq]
section
variable {w : World} {q : Nat} {t : TypeId} {x0 x1 x2 : Value}
theorem B3.lt (h : B3 w q t x0 x1 x2) : q < w.heap.size := (Array.getElem?_eq_some_iff.1 h).1
theorem B3.fz (h : B3 w q t x0 x1 x2) (o : Nat) : w.frozen? ⟨q, o, none⟩ = false := by unfold B3 at h; simp [World.frozen?, h]
theorem B3.set0 (h : B3 w q t x0 x1 x2) (v : Value) : B3 (w.setCell ⟨q, 0, none⟩ v) q t v x1 x2 := by unfold B3 at h ⊢; simp [World.setCell, Array.getElem?_modify, h]
theorem B3.set1 (h : B3 w q t x0 x1 x2) (v : Value) : B3 (w.setCell ⟨q, 1, none⟩ v) q t x0 v x2 := by unfold B3 at h ⊢; simp [World.setCell, Array.getElem?_modify, h]
theorem B3.set2 (h : B3 w q t x0 x1 x2) (v : Value) : B3 (w.setCell ⟨q, 2, none⟩ v) q t x0 x1 v := by unfold B3 at h ⊢; simp [World.setCell, Array.getElem?_modify, h]
end
def EndP (R : Act -> World -> Prop) : Exit -> Act -> World -> Prop
  | .normal, a, w => R a w
  | _, _, _ => False
theorem region_end {P : Program} {c : Code} {Q : Exit -> Act -> World -> Prop} {a : Act} {w : World} (R : Act -> World -> Prop) (h1 : c.wp P (EndP R) a w) (h2 : ∀ a' w', R a' w' -> Q .normal a' w') : c.wp P Q a w :=
  Code.wp_mono (fun e a' w' h => by cases e <;> first | exact h2 a' w' h | exact (h : False).elim) h1
end Go.Proofs.YtjamgmbdilkbcaaGreat
