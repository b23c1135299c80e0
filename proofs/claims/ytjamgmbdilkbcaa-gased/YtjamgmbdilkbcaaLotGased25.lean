import Derived.Test.YtjamgmbdilkbcaaLotGased24
/- placesOf. -/
namespace Go.Proofs.Ytjamgmbdilkbcaa
open Go.RowKit

/-- the places so far. -/
structure PO (w wr : World) (f : Pu.Fn) (x : FV) (v : Value) (l : List Int) : Prop where
  o : wr.ownsRow w.heap.size 3 1 v l.length (l.map (Value.int .i64))
  b : F4 wr w.heap.size 86 x.p x.r x.l x.c
  bl : Below w.heap.size w wr

def PlOut (w w' : World) (f : Pu.Fn) (e : Ending) : Prop := ∃ v, e = .returned v ∧ w'.ownsRow w.heap.size 3 1 v (Fl.places f).length ((Fl.places f).map (Value.int .i64)) ∧ Below w.heap.size w w'

theorem PO.push {w wr w5 : World} {f : Pu.Fn} {x : FV} {v v2 : Value} {l : List Int} {k : Int} (h : PO w wr f x v l) (ob : Obj) (ho : w5.ownsRow w.heap.size 3 1 v2 (l.length + 1) (l.map (Value.int .i64) ++ [.int .i64 k])) (hg : (wr.alloc ob).grownBy w5 v.ownBlock) : PO w w5 f x v2 (l ++ [k]) := by
  have b1 : F4 (wr.alloc ob) w.heap.size 86 x.p x.r x.l x.c := h.b.kept (World.grownBy_alloc wr ob none) (by simp)
  have o1 := h.o.alloc ob
  refine ⟨by simpa using ho, b1.kept hg (fun e => ne_ph o1 b1 (by decide) e.symm), (h.bl.alloc h.bl.size ob).grown hg (by simp only [World.size_alloc]; have := h.bl.size; omega) (fun k hk => (o1.lt k hk).1)⟩

set_option maxRecDepth 100000 in
set_option maxHeartbeats 2000000 in
theorem fplaces_any (f : Pu.Fn) (x : FV) (w : World) (hf : FnR w w.heap.size x f) (hn : f.params.length ≤ 1000000 ∧ f.locals.length ≤ 1000000) :
    Calls Try.prog 87 #[.agg #[x.p, x.r, x.l, x.c]] w fun e w' => PlOut w w' f e := by
  obtain ⟨i0, hi0, hz0, hz1, hz2⟩ := info_parts Try.info3
  obtain ⟨x1, y1, x2, y2, x3, y3, x4, y4, rfl⟩ := hf.shape
  obtain ⟨hn1, hn2⟩ := hn
  have HF := hid hf
  clear hf
  have b0 : F4 (w.alloc (.cells #[.slice x1 f.params.length y1, .slice x2 f.results.length y2, .slice x3 f.locals.length y3, .slice x4 f.code.length y4] 86)) w.heap.size 86 (.slice x1 f.params.length y1) (.slice x2 f.results.length y2) (.slice x3 f.locals.length y3) (.slice x4 f.code.length y4) := heap_alloc_new w _
  have bl0 := (Below.refl w.heap.size w).alloc (Nat.le_refl _) (.cells #[.slice x1 f.params.length y1, .slice x2 f.results.length y2, .slice x3 f.locals.length y3, .slice x4 f.code.length y4] 86)
  simp only
  go_enter Try.func87, Try.ntmps87
  go_wp2
  have P0 : PO w ((w.alloc (.cells #[.slice x1 f.params.length y1, .slice x2 f.results.length y2, .slice x3 f.locals.length y3, .slice x4 f.code.length y4] 86)).alloc (.cells #[] 3)) f ⟨.slice x1 f.params.length y1, .slice x2 f.results.length y2, .slice x3 f.locals.length y3, .slice x4 f.code.length y4⟩ (.slice (some ⟨w.heap.size + 1, 0, none⟩) 0 0) [] :=
    ⟨⟨rfl, .inr ⟨w.heap.size + 1, 0, #[], rfl, by omega, heap_alloc2_new w _ _, Nat.le_refl _, by unfold maxLen; omega, rfl, rfl⟩⟩, b0.kept (World.grownBy_alloc _ _ none) (by simp), bl0.alloc (by simp) _⟩
  clear b0 bl0
  go_loopw [3, 4] (fun v i wr => ∃ k : Nat, k ≤ f.params.length ∧ i = .int .i64 k ∧ PO w wr f ⟨.slice x1 f.params.length y1, .slice x2 f.results.length y2, .slice x3 f.locals.length y3, .slice x4 f.code.length y4⟩ v (f.params.take k)) (fun _ i _ => f.params.length - (intOf i).toNat)
  case atStart => exact ⟨0, Nat.zero_le _, rfl, by simpa using P0⟩
  case round =>
    obtain ⟨k, hk, rfl, Pk⟩ := hrel
    clear P0
    have d0 := Pk.b.c0
    simp only at d0
    obtain ⟨av, cv, hav⟩ := owns_shape Pk.o
    subst hav
    obtain ⟨N, hN⟩ : ∃ N, N = (f.params.take k).length := ⟨_, rfl⟩
    have hNb : N ≤ 2000000 := by rw [hN]; simp; omega
    have HN := hid hN
    rw [← hN] at Pk ⊢
    clear hN
    by_cases hlt : k < f.params.length
    · obtain ⟨aq, cq, bq, oq, hqv, q1, q2⟩ := HF.out.p
      simp only [Value.slice.injEq, true_and] at hqv
      obtain ⟨rfl, rfl⟩ := hqv
      obtain ⟨rfl, hql⟩ := q1 (by omega)
      have c1 := (Pk.bl.cell (p := ⟨bq, oq + k, none⟩) hql).trans (q2 k hlt)
      have HTK : Hid (f.params.take (k + 1) = (f.params.take k) ++ [f.params.getD k 0]) := by
        show _ = _
        rw [List.take_succ_eq_append_getElem hlt, List.getD_eq_getElem?_getD, List.getElem?_eq_getElem hlt]
        simp
      generalize f.params.getD k 0 = kk at *
      clear q1 q2
      have oA := Pk.o.alloc (.cells #[.int .i64 kk] 3)
      rw [← HN.out] at oA
      have hzr := Pk.bl.size
      go_wp2_with (at_builtin; refine wpList_append_keep rfl _ _ 30 rfl w.heap.size 3 i0 (.int .i64 0) 1 8 Try.underlying30 hi0 hz0 hz1 hz2 rfl (by decide) _ _ _ rfl oA ⟨wr.heap.size, 0, none⟩ 1 1 [.int .i64 kk] rfl rfl (cell_one_new _ _ _) ?t2 ?t3 ?t4 ?t5 (by decide) ?_)
      case t2 => intro u hu; simp at hu; subst hu; rfl
      case t3 => unfold maxLen; omega
      case t4 => omega
      case t5 => simp only [World.size_alloc]; omega
      intro v2 w5 hv5 hg5 _ hl5
      have P5 := Pk.push (k := kk) (v2 := v2) (.cells #[.int .i64 kk] 3) (by rw [← HN.out]; simpa using hv5) hg5
      rw [← HTK.out] at P5
      clear Pk hv5 hg5 hl5 oA c1 d0
      go_wp2
      go_roundw
      case rel => exact ⟨k + 1, hlt, by go_num, P5⟩
      case measure => simp [intOf]; omega
    · have hkl : k = f.params.length := by omega
      subst hkl
      rw [List.take_of_length_le (Nat.le_refl _)] at Pk HN
      have P0 : PO w wr f ⟨.slice x1 f.params.length y1, .slice x2 f.results.length y2, .slice x3 f.locals.length y3, .slice x4 f.code.length y4⟩ (.slice av N cv) (f.params ++ f.locals.take 0) := by rw [List.take_zero, List.append_nil]; exact Pk
      go_wp2
      clear d0 Pk hlt hk HN
      clear hNb
      go_loopw [3, 5] (fun v i wr => ∃ k : Nat, k ≤ f.locals.length ∧ i = .int .i64 k ∧ PO w wr f ⟨.slice x1 f.params.length y1, .slice x2 f.results.length y2, .slice x3 f.locals.length y3, .slice x4 f.code.length y4⟩ v (f.params ++ f.locals.take k)) (fun _ i _ => f.locals.length - (intOf i).toNat)
      case atStart => exact ⟨0, Nat.zero_le _, rfl, by simpa using P0⟩
      case round =>
        obtain ⟨k, hk, rfl, Pk⟩ := hrel
        clear P0
        have d0 := Pk.b.c2
        simp only at d0
        obtain ⟨av, cv, hav⟩ := owns_shape Pk.o
        subst hav
        obtain ⟨N, hN⟩ : ∃ N, N = (f.params ++ f.locals.take k).length := ⟨_, rfl⟩
        have hNb : N ≤ 2000000 := by rw [hN]; simp; omega
        have HN := hid hN
        rw [← hN] at Pk ⊢
        clear hN
        by_cases hlt : k < f.locals.length
        · obtain ⟨aq, cq, bq, oq, hqv, q1, q2⟩ := HF.out.l
          simp only [Value.slice.injEq, true_and] at hqv
          obtain ⟨rfl, rfl⟩ := hqv
          obtain ⟨rfl, hql⟩ := q1 (by omega)
          have c1 := (Pk.bl.cell (p := ⟨bq, oq + k, none⟩) hql).trans (q2 k hlt)
          have HTK : Hid (f.params ++ f.locals.take (k + 1) = (f.params ++ f.locals.take k) ++ [f.locals.getD k 0]) := by
            show _ = _
            rw [List.take_succ_eq_append_getElem hlt, List.getD_eq_getElem?_getD, List.getElem?_eq_getElem hlt]
            simp
          generalize f.locals.getD k 0 = kk at *
          clear q1 q2
          have oA := Pk.o.alloc (.cells #[.int .i64 kk] 3)
          rw [← HN.out] at oA
          have hzr := Pk.bl.size
          go_wp2_with (at_builtin; refine wpList_append_keep rfl _ _ 30 rfl w.heap.size 3 i0 (.int .i64 0) 1 8 Try.underlying30 hi0 hz0 hz1 hz2 rfl (by decide) _ _ _ rfl oA ⟨wr.heap.size, 0, none⟩ 1 1 [.int .i64 kk] rfl rfl (cell_one_new _ _ _) ?t2 ?t3 ?t4 ?t5 (by decide) ?_)
          case t2 => intro u hu; simp at hu; subst hu; rfl
          case t3 => unfold maxLen; omega
          case t4 => omega
          case t5 => simp only [World.size_alloc]; omega
          intro v2 w5 hv5 hg5 _ hl5
          have P5 := Pk.push (k := kk) (v2 := v2) (.cells #[.int .i64 kk] 3) (by rw [← HN.out]; simpa using hv5) hg5
          rw [← HTK.out] at P5
          clear Pk hv5 hg5 hl5 oA c1 d0
          go_wp2
          go_roundw
          case rel => exact ⟨k + 1, hlt, by go_num, P5⟩
          case measure => simp [intOf]; omega
        · have hkl : k = f.locals.length := by omega
          subst hkl
          rw [List.take_of_length_le (Nat.le_refl _)] at Pk HN
          have FIN : Hid (PlOut w wr f (.returned (.slice av N cv))) := ⟨_, rfl, by rw [HN.out] at Pk ⊢; exact Pk.o, Pk.bl⟩
          clear Pk
          go_wp2
          go_ret
          exact FIN.out
end Go.Proofs.Ytjamgmbdilkbcaa

/- The walk is right: plainly. -/
namespace Go.Proofs.Ytjamgmbdilkbcaa

/-- how many have no state. -/
def cn : List (Option Fl.S) → Nat
  | [] => 0
  | none :: l => cn l + 1
  | some _ :: l => cn l

theorem cn_set (s : Fl.S) : ∀ (l : List (Option Fl.S)) (j : Nat), j < l.length → l.getD j none = none → cn (l.set j (some s)) + 1 = cn l
  | [], _, h, _ => by simp at h
  | none :: l, 0, _, _ => rfl
  | some u :: l, 0, _, h => by simp at h
  | none :: l, j + 1, h, h2 => by
    have := cn_set s l j (by simpa using h) (by simpa using h2)
    simp only [List.set_cons_succ, cn]
    omega
  | some u :: l, j + 1, h, h2 => by
    have := cn_set s l j (by simpa using h) (by simpa using h2)
    simp only [List.set_cons_succ, cn]
    omega
theorem cn_all (n : Nat) : cn (List.replicate n none) = n := by
  induction n with
  | zero => rfl
  | succ n ih => rw [List.replicate_succ, cn, ih]

/-- where the walk stands. -/
structure Core (m : Pu.Md) (f : Pu.Fn) (p : LP) : Prop where
  len : p.σ.length = f.code.length
  cnt : p.T.length + cn p.σ = f.code.length
  tk : ∀ j ∈ p.T, ∃ s, p.σ.getD j none = some s
  kt : ∀ j s, p.σ.getD j none = some s → j ∈ p.T
  ext : ∀ τ, Fl.Good m f τ → p.bad = false ∧ ∀ j s, p.σ.getD j none = some s → τ j = some s

theorem getD_lt {l : List (Option Fl.S)} {j : Nat} {s : Fl.S} (h : l.getD j none = some s) : j < l.length := by
  rw [List.getD_eq_getElem?_getD] at h
  by_cases hj : j < l.length
  · exact hj
  · rw [List.getElem?_eq_none (by omega)] at h
    simp at h
theorem getD_set (l : List (Option Fl.S)) (j k : Nat) (s : Fl.S) (hj : j < l.length) : (l.set j (some s)).getD k none = if k = j then some s else l.getD k none := by
  rw [List.getD_eq_getElem?_getD, List.getD_eq_getElem?_getD]
  by_cases h : k = j
  · subst h
    rw [if_pos rfl, List.getElem?_set_self hj]
    rfl
  · rw [if_neg h, List.getElem?_set_ne (fun e => h e.symm)]

/-- what one step of lead gives. -/
structure LeadsTo (p p' : LP) (j : Nat) (s : Fl.S) : Prop where
  keep : ∀ k t, p.σ.getD k none = some t → p'.σ.getD k none = some t
  pre : ∃ r, p'.T = p.T ++ r
  good : p'.bad = false → p.bad = false ∧ p'.σ.getD j none = some s

theorem lead_core {m : Pu.Md} {f : Pu.Fn} {p : LP} (h : Core m f p) (j : Nat) (s : Fl.S) (hτ : ∀ τ, Fl.Good m f τ → τ j = some s) : Core m f (leadP (j : Int) s p) ∧ LeadsTo p (leadP (j : Int) s p) j s := by
  unfold leadP
  by_cases hj : j < p.σ.length
  · rw [if_neg (by omega), show (j : Int).toNat = j from by omega]
    cases hg : p.σ.getD j none with
    | none =>
      simp only
      refine ⟨⟨by simp [h.len], ?_, ?_, ?_, ?_⟩, ⟨?_, ⟨[j], rfl⟩, fun hb => ⟨hb, ?_⟩⟩⟩
      · have := cn_set s p.σ j hj hg
        have := h.cnt
        simp only [List.length_append, List.length_singleton]
        omega
      · intro k hk
        simp only
        rw [getD_set _ _ _ _ hj]
        by_cases hkj : k = j
        · exact ⟨s, by rw [if_pos hkj]⟩
        · rw [if_neg hkj]
          rcases List.mem_append.1 hk with hk | hk
          · exact h.tk k hk
          · simp only [List.mem_singleton] at hk
            exact absurd hk hkj
      · intro k t hk
        simp only at hk ⊢
        rw [getD_set _ _ _ _ hj] at hk
        by_cases hkj : k = j
        · simp [hkj]
        · rw [if_neg hkj] at hk
          exact List.mem_append_left _ (h.kt k t hk)
      · intro τ hτg
        refine ⟨(h.ext τ hτg).1, fun k t hk => ?_⟩
        simp only at hk
        rw [getD_set _ _ _ _ hj] at hk
        by_cases hkj : k = j
        · rw [if_pos hkj] at hk
          rw [hkj, hτ τ hτg, hk]
        · rw [if_neg hkj] at hk
          exact (h.ext τ hτg).2 k t hk
      · intro k t hk
        simp only
        rw [getD_set _ _ _ _ hj]
        by_cases hkj : k = j
        · rw [hkj, hg] at hk
          simp at hk
        · rw [if_neg hkj]
          exact hk
      · simp only
        rw [getD_set _ _ _ _ hj, if_pos rfl]
    | some u =>
      simp only
      refine ⟨⟨h.len, h.cnt, h.tk, h.kt, fun τ hτg => ?_⟩, ⟨fun k t hk => hk, ⟨[], by simp⟩, fun hb => ?_⟩⟩
      · obtain ⟨h1, h2⟩ := h.ext τ hτg
        have h3 := h2 j u hg
        rw [hτ τ hτg] at h3
        cases h3
        exact ⟨by simp [h1], h2⟩
      · simp only [Bool.or_eq_false_iff, decide_eq_false_iff_not, ne_eq, Decidable.not_not] at hb
        exact ⟨hb.1, by rw [hg, hb.2]⟩
  · rw [if_pos (by omega)]
    refine ⟨⟨h.len, h.cnt, h.tk, h.kt, fun τ hτg => ?_⟩, ⟨fun k t hk => hk, ⟨[], by simp⟩, fun hb => by simp at hb⟩⟩
    have := (hτg.step j s (hτ τ hτg)).1
    have := h.len
    omega

theorem leads_core {m : Pu.Md} {f : Pu.Fn} (s : Fl.S) : ∀ (L : List Nat) {p : LP}, Core m f p → (∀ j ∈ L, ∀ τ, Fl.Good m f τ → τ j = some s) →
    Core m f (L.foldl (fun p (j : Nat) => leadP (j : Int) s p) p) ∧ (∀ k t, p.σ.getD k none = some t → (L.foldl (fun p (j : Nat) => leadP (j : Int) s p) p).σ.getD k none = some t) ∧ (∃ r, (L.foldl (fun p (j : Nat) => leadP (j : Int) s p) p).T = p.T ++ r) ∧
    ((L.foldl (fun p (j : Nat) => leadP (j : Int) s p) p).bad = false → p.bad = false ∧ ∀ j ∈ L, (L.foldl (fun p (j : Nat) => leadP (j : Int) s p) p).σ.getD j none = some s)
  | [], p, h, _ => ⟨h, fun _ _ h => h, ⟨[], by simp⟩, fun hb => ⟨hb, by simp⟩⟩
  | j :: L, p, h, hL => by
    obtain ⟨c1, l1⟩ := lead_core h j s (hL j (by simp))
    obtain ⟨c2, k2, ⟨r2, e2⟩, g2⟩ := leads_core s L c1 (fun k hk => hL k (by simp [hk]))
    obtain ⟨r1, e1⟩ := l1.pre
    simp only [List.foldl_cons]
    refine ⟨c2, fun k t hk => k2 k t (l1.keep k t hk), ⟨r1 ++ r2, by rw [e2, e1, List.append_assoc]⟩, fun hb => ?_⟩
    obtain ⟨hb1, hs⟩ := g2 hb
    obtain ⟨hb0, hj⟩ := l1.good hb1
    refine ⟨hb0, fun k hk => ?_⟩
    rcases List.mem_cons.1 hk with rfl | hk
    · exact k2 k s hj
    · exact hs k hk

/-- an instruction that has been followed. -/
def Closed (m : Pu.Md) (f : Pu.Fn) (σ : List (Option Fl.S)) (j : Nat) : Prop := ∃ s s', σ.getD j none = some s ∧ Fl.after m f (f.code.getD j (0, 0)) s = some s' ∧ ∀ t ∈ Fl.leads (f.code.getD j (0, 0)) j, σ.getD t none = some s'

structure Inv (m : Pu.Md) (f : Pu.Fn) (p : LP) (i : Nat) : Prop where
  core : Core m f p
  start : p.bad = false → p.σ.getD 0 none = some (Fl.init f)
  closed : p.bad = false → ∀ x j, x < i → p.T[x]? = some j → Closed m f p.σ j

theorem inv_start (m : Pu.Md) (f : Pu.Fn) : Inv m f (leadP 0 (Fl.init f) ⟨List.replicate f.code.length none, [], false⟩) 0 := by
  have hn : ∀ k, (List.replicate f.code.length (none : Option Fl.S)).getD k none = none := fun k => by
    rw [List.getD_eq_getElem?_getD]
    by_cases h : k < f.code.length <;> simp [h]
  have c0 : Core m f ⟨List.replicate f.code.length none, [], false⟩ := ⟨by simp, by simp [cn_all], by simp, fun j s h => by rw [hn] at h; simp at h, fun τ _ => ⟨rfl, fun j s h => by rw [hn] at h; simp at h⟩⟩
  obtain ⟨c1, l1⟩ := lead_core c0 0 (Fl.init f) (fun τ h => h.start)
  exact ⟨c1, fun hb => (l1.good hb).2, fun _ x j hx => by omega⟩

theorem inv_step {m : Pu.Md} {f : Pu.Fn} {p : LP} {i : Nat} (h : Inv m f p i) (hi : i < p.T.length) : Inv m f (followP m f (p.T.getD i 0) p) (i + 1) := by
  have hti : p.T[i]? = some (p.T.getD i 0) := by rw [List.getD_eq_getElem?_getD, List.getElem?_eq_getElem hi]; rfl
  have hmem : p.T.getD i 0 ∈ p.T := List.mem_of_getElem? hti
  generalize p.T.getD i 0 = a at *
  obtain ⟨s, hs⟩ := h.core.tk a hmem
  unfold followP
  rw [hs]
  simp only
  cases ha : Fl.after m f (f.code.getD a (0, 0)) s with
  | none =>
    simp only
    have hno : ∀ τ, ¬ Fl.Good m f τ := fun τ hτ => by
      obtain ⟨_, s', h1, _⟩ := hτ.step a s ((h.core.ext τ hτ).2 a s hs)
      rw [ha] at h1
      simp at h1
    exact ⟨⟨h.core.len, h.core.cnt, h.core.tk, h.core.kt, fun τ hτ => absurd hτ (hno τ)⟩, fun hb => by simp at hb, fun hb => by simp at hb⟩
  | some s' =>
    simp only
    obtain ⟨c2, k2, ⟨r2, e2⟩, g2⟩ := leads_core s' (Fl.leads (f.code.getD a (0, 0)) a) h.core (fun j hj τ hτ => by
      obtain ⟨_, s2, h1, h2⟩ := hτ.step a s ((h.core.ext τ hτ).2 a s hs)
      rw [ha] at h1
      cases h1
      exact h2 j hj)
    refine ⟨c2, fun hb => k2 _ _ (h.start (g2 hb).1), fun hb x j hx hj => ?_⟩
    obtain ⟨hb0, hl⟩ := g2 hb
    by_cases hxi : x < i
    · rw [e2, List.getElem?_append_left (by omega)] at hj
      obtain ⟨u, u', h1, h2, h3⟩ := h.closed hb0 x j hxi hj
      exact ⟨u, u', k2 _ _ h1, h2, fun t ht => k2 _ _ (h3 t ht)⟩
    · have : x = i := by omega
      subst this
      rw [e2, List.getElem?_append_left (by omega), hti] at hj
      cases hj
      exact ⟨s, s', k2 _ _ hs, ha, hl⟩

theorem inv_end {m : Pu.Md} {f : Pu.Fn} {p : LP} (h : Inv m f p p.T.length) (hb : p.bad = false) : Fl.Sound m f := by
  refine ⟨fun j => p.σ.getD j none, ⟨h.start hb, fun j s hs => ?_⟩⟩
  obtain ⟨x, hx⟩ := List.mem_iff_getElem?.1 (h.core.kt j s hs)
  obtain ⟨u, u', h1, h2, h3⟩ := h.closed hb x j (List.getElem?_eq_some_iff.1 hx).1 hx
  have hlt := getD_lt hs
  rw [h.core.len] at hlt
  rw [h1] at hs
  cases hs
  exact ⟨hlt, u', h2, h3⟩
theorem inv_bad {m : Pu.Md} {f : Pu.Fn} {p : LP} {i : Nat} (h : Inv m f p i) (hb : p.bad = true) : ¬ Fl.Sound m f := by
  rintro ⟨τ, hτ⟩
  have := (h.core.ext τ hτ).1
  rw [hb] at this
  simp at this
end Go.Proofs.Ytjamgmbdilkbcaa
