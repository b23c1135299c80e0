import Derived.Test.YtjamgmbdilkbcaaGreatLotLedgers17
/- A state that comes up stays one behind an instruction. No program here. -/
namespace Go.Proofs.YtjamgmbdilkbcaaGreat

structure PutOk (m : Pu.Md) (f : Pu.Fn) (x : Int × Int) : Prop where
  pl : ∀ k ∈ Fl.places f, 0 <= k /\ k <= m.kinds.length
  arg : x.1 = 12 \/ x.1 = 15 -> 0 <= x.2 /\ x.2 <= m.kinds.length
  rs : ∀ g ∈ m.funcs, ∀ k ∈ g.results, 0 <= k /\ k <= m.kinds.length
theorem put_ok {m : Pu.Md} {t t' : Fl.S} {k : Int} (so : StOk m t) (hk : 0 <= k /\ k <= m.kinds.length) (h : Fl.putS k t = some t') : StOk m t' := by
  unfold Fl.putS at h
  split at h
  · rename_i hl
    cases h
    refine ⟨by simp only [List.length_append, List.length_singleton]; omega, so.full, fun x hx => ?_⟩
    rcases List.mem_append.1 hx with hx | hx
    · exact so.kinds x hx
    · rw [List.mem_singleton] at hx; rw [hx]; exact hk
  · cases h
theorem take_ok {m : Pu.Md} {t t' : Fl.S} {k : Int} (so : StOk m t) (h : Fl.takeS k t = some t') : StOk m t' := by
  unfold Fl.takeS at h
  split at h
  · cases h
    exact ⟨by have := so.len; simp only [List.length_dropLast]; omega, so.full, fun x hx => so.kinds x (List.dropLast_subset _ hx)⟩
  · cases h
theorem takes_ok {m : Pu.Md} : ∀ {l : List Int} {t t' : Fl.S}, StOk m t -> Fl.takesS l t = some t' -> StOk m t'
  | [], t, t', so, h => by simp only [Fl.takesS] at h; cases h; exact so
  | k :: l, t, t', so, h => by
    simp only [Fl.takesS] at h
    obtain ⟨u, hu, h2⟩ := Option.bind_eq_some_iff.1 h
    exact takes_ok (take_ok so hu) h2
theorem puts_ok {m : Pu.Md} : ∀ {l : List Int} {t t' : Fl.S}, StOk m t -> (∀ k ∈ l, 0 <= k /\ k <= m.kinds.length) -> Fl.putsS l t = some t' -> StOk m t'
  | [], t, t', so, _, h => by simp only [Fl.putsS] at h; cases h; exact so
  | k :: l, t, t', so, hk, h => by
    simp only [Fl.putsS] at h
    obtain ⟨u, hu, h2⟩ := Option.bind_eq_some_iff.1 h
    exact puts_ok (put_ok so (hk k (List.mem_cons_self ..)) hu) (fun x hx => hk x (List.mem_cons_of_mem _ hx)) h2
theorem full_ok {m : Pu.Md} {t : Fl.S} (so : StOk m t) (a : Nat) (b : Bool) : StOk m ⟨t.stk, t.full.set a b⟩ :=
  ⟨so.len, by simp only [List.length_set]; exact so.full, so.kinds⟩
theorem getD_ok {l : List Int} {K : Int} (hK : 0 <= K) (h : ∀ k ∈ l, 0 <= k /\ k <= K) (n : Nat) : 0 <= l.getD n 0 /\ l.getD n 0 <= K := by
  rw [List.getD_eq_getElem?_getD]
  by_cases hn : n < l.length
  · rw [List.getElem?_eq_getElem hn]; exact h _ (List.getElem_mem hn)
  · rw [List.getElem?_eq_none (by omega)]; exact ⟨Int.le_refl _, hK⟩
theorem after_ok {m : Pu.Md} {f : Pu.Fn} {x : Int × Int} {t t' : Fl.S} (po : PutOk m f x) (so : StOk m t) (h : Fl.after m f x t = some t') : StOk m t' := by
  have hK : (0 : Int) <= m.kinds.length := Int.natCast_nonneg _
  have z : (0 : Int) <= 0 /\ (0 : Int) <= m.kinds.length := ⟨Int.le_refl _, hK⟩
  unfold Fl.after at h
  by_cases h0 : x.1 = 0
  · rw [if_pos h0] at h; unfold Fl.retS at h; split at h <;> cases h; exact so
  rw [if_neg h0] at h
  by_cases h1 : x.1 = 1
  · rw [if_pos h1] at h; exact put_ok so z h
  rw [if_neg h1] at h
  by_cases h2 : x.1 = 2 \/ x.1 = 3 \/ x.1 = 4 \/ x.1 = 5
  · rw [if_pos h2] at h
    obtain ⟨u, hu, g⟩ := Option.bind_eq_some_iff.1 h
    obtain ⟨v, hv, g2⟩ := Option.bind_eq_some_iff.1 hu
    exact put_ok (take_ok (take_ok so hv) g2) z g
  rw [if_neg h2] at h
  by_cases h7 : x.1 = 7
  · rw [if_pos h7] at h; exact take_ok so h
  rw [if_neg h7] at h
  by_cases h8 : x.1 = 8
  · rw [if_pos h8] at h; unfold Fl.copyS at h; split at h
    · exact put_ok so (getD_ok hK po.pl _) h
    · cases h
  rw [if_neg h8] at h
  by_cases h9 : x.1 = 9
  · rw [if_pos h9] at h; unfold Fl.moveS at h; split at h
    · exact put_ok (full_ok so _ _) (getD_ok hK po.pl _) h
    · cases h
  rw [if_neg h9] at h
  by_cases h10 : x.1 = 10
  · rw [if_pos h10] at h; unfold Fl.keepS at h
    obtain ⟨u, hu, g⟩ := Option.bind_eq_some_iff.1 h
    split at g
    · cases g; exact full_ok (take_ok so hu) _ _
    · cases g
  rw [if_neg h10] at h
  by_cases h11 : x.1 = 11
  · rw [if_pos h11] at h; unfold Fl.dropS at h; split at h
    · cases h
      exact ⟨by have := so.len; simp only [List.length_dropLast]; omega, so.full, fun x hx => so.kinds x (List.dropLast_subset _ hx)⟩
    · cases h
  rw [if_neg h11] at h
  by_cases h12 : x.1 = 12
  · rw [if_pos h12] at h
    obtain ⟨u, hu, g⟩ := Option.bind_eq_some_iff.1 h
    exact put_ok (take_ok so hu) (po.arg (.inl h12)) g
  rw [if_neg h12] at h
  by_cases h13 : x.1 = 13
  · rw [if_pos h13] at h
    obtain ⟨u, hu, g⟩ := Option.bind_eq_some_iff.1 h
    exact put_ok (take_ok so hu) z g
  rw [if_neg h13] at h
  by_cases h14 : x.1 = 14
  · rw [if_pos h14] at h; unfold Fl.callS at h
    obtain ⟨u, hu, g⟩ := Option.bind_eq_some_iff.1 h
    refine puts_ok (takes_ok so hu) (fun k hk => ?_) g
    by_cases hn : x.2.toNat < m.funcs.length
    · rw [List.getD_eq_getElem?_getD, List.getElem?_eq_getElem hn] at hk
      exact po.rs _ (List.getElem_mem hn) k hk
    · rw [List.getD_eq_getElem?_getD, List.getElem?_eq_none (by omega)] at hk
      simp at hk
  rw [if_neg h14] at h
  by_cases h15 : x.1 = 15
  · rw [if_pos h15] at h; exact put_ok so (po.arg (.inr h15)) h
  rw [if_neg h15] at h
  by_cases h16 : x.1 = 16
  · rw [if_pos h16] at h
    obtain ⟨u, hu, g⟩ := Option.bind_eq_some_iff.1 h
    exact take_ok (take_ok so hu) g
  rw [if_neg h16] at h
  by_cases h17 : x.1 = 17
  · rw [if_pos h17] at h
    obtain ⟨u, hu, g⟩ := Option.bind_eq_some_iff.1 h
    exact put_ok (take_ok so hu) z g
  rw [if_neg h17] at h
  cases h
  exact so
theorem isMd_mdok {m : Pu.Md} (h : Pu.isMd m = true) : MdOk m := by
  simp only [Pu.isMd, Pu.isFn, Pu.isList, Bool.and_eq_true, decide_eq_true_eq, List.all_eq_true] at h
  obtain ⟨⟨h1, _⟩, _, _, h4⟩ := h
  refine ⟨by omega, fun g hg => ?_⟩
  obtain ⟨⟨p1, p2⟩, ⟨r1, r2⟩, _⟩ := h4 g hg
  exact ⟨by omega, by omega, fun k hk => by have := p2 k hk; omega, fun k hk => by have := r2 k hk; omega⟩
theorem isMd_args {m : Pu.Md} (h : Pu.isMd m = true) {f : Pu.Fn} (hf : f ∈ m.funcs) (i : Nat) (hi : i < f.code.length) :
    (0 <= (f.code.getD i (0, 0)).2 /\ (f.code.getD i (0, 0)).2 <= 255) /\ ((f.code.getD i (0, 0)).1 = 12 \/ (f.code.getD i (0, 0)).1 = 13 \/ (f.code.getD i (0, 0)).1 = 15 \/ (f.code.getD i (0, 0)).1 = 16 -> 0 <= (f.code.getD i (0, 0)).2 /\ (f.code.getD i (0, 0)).2 <= m.kinds.length) := by
  simp only [Pu.isMd, Pu.isFn, Pu.isList, Pu.isCode, Bool.and_eq_true, decide_eq_true_eq, List.all_eq_true] at h
  obtain ⟨⟨h1, _⟩, h2, h3, h4⟩ := h
  obtain ⟨⟨p1, _⟩, _, ⟨l1, _⟩, c1, c2, c3⟩ := h4 f hf
  have hx := c3 (f.code.getD i (0, 0)) (by rw [List.getD_eq_getElem?_getD, List.getElem?_eq_getElem hi]; exact List.getElem_mem hi)
  generalize f.code.getD i (0, 0) = x at *
  simp only [Pu.isInstr, Bool.and_eq_true, decide_eq_true_eq] at hx
  obtain ⟨⟨⟨x1, x2⟩, x3⟩, x4⟩ := hx
  unfold Pu.argLo at x3
  unfold Pu.argHi at x4
  refine ⟨⟨by split at x3 <;> omega, ?_⟩, fun hop => ⟨by split at x3 <;> omega, ?_⟩⟩
  · repeat' split at x4
    all_goals omega
  · repeat' split at x4
    all_goals omega
theorem isMd_low {m : Pu.Md} (h : Pu.isMd m = true) {f : Pu.Fn} (hf : f ∈ m.funcs) : FnLow m f := by
  have ha := fun i hi => isMd_args h hf i hi
  have hr := (isMd_mdok h).fn f hf
  simp only [Pu.isMd, Pu.isFn, Pu.isList, Bool.and_eq_true, decide_eq_true_eq, List.all_eq_true] at h
  obtain ⟨_, _, _, h4⟩ := h
  obtain ⟨⟨_, p2⟩, _, ⟨_, l2⟩, _⟩ := h4 f hf
  refine ⟨fun k hk => ?_, hr.2.2.2, fun i hi => (ha i hi).1, fun i hi hop => (ha i hi).2 (by omega)⟩
  rcases List.mem_append.1 hk with hk | hk
  · exact p2 k hk
  · exact l2 k hk
theorem isMd_put {m : Pu.Md} (h : Pu.isMd m = true) {f : Pu.Fn} (hf : f ∈ m.funcs) (i : Nat) (hi : i < f.code.length) : PutOk m f (f.code.getD i (0, 0)) := by
  have ha := (isMd_args h hf i hi).2
  refine ⟨(isMd_low h hf).pl, fun hop => ha (by omega), fun g hg k hk => ?_⟩
  simp only [Pu.isMd, Pu.isFn, Pu.isList, Bool.and_eq_true, decide_eq_true_eq, List.all_eq_true] at h
  obtain ⟨_, _, _, h4⟩ := h
  obtain ⟨_, ⟨_, r2⟩, _⟩ := h4 g hg
  exact r2 k hk
end Go.Proofs.YtjamgmbdilkbcaaGreat

/- The document's leads. -/
namespace Go.Proofs.YtjamgmbdilkbcaaGreat
open Go.RowKit

def nextS (x : Int × Int) (i n : Nat) : Bool := decide (x.1 = 0 \/ x.1 = 6 \/ x.1 = 18) || decide (i + 1 < n)
def RLead (w w' : World) (f : Pu.Fn) (a : Nat) (x : Int × Int) (e : Ending) : Prop :=
  ∃ v, e = .returned (.tuple #[v, .bool (nextS x a f.code.length)]) /\ IntsR w' w'.heap.size v ((Fl.leads x a).map Int.ofNat) /\ Below w.heap.size w w' /\ ∀ k, v.ownBlock = some k -> w.heap.size <= k
theorem ints_none (w : World) (B : Nat) : IntsR w B (.slice none 0 0) [] := ⟨none, 0, 0, 0, rfl, fun h => absurd h (by simp), fun j hj => absurd hj (by simp)⟩
theorem ints_one (W : World) (x : Int) (t : TypeId) : IntsR (W.alloc (.cells #[.int .i64 x] t)) (W.heap.size + 1) (.slice (some ⟨W.heap.size, 0, none⟩) 1 1) [x] := by
  refine ⟨_, 1, W.heap.size, 0, rfl, fun _ => ⟨rfl, by omega⟩, fun j hj => ?_⟩
  have h := heap_alloc_new W (.cells #[.int .i64 x] t)
  simp only [List.length_singleton] at hj
  obtain rfl : j = 0 := by omega
  unfold World.cell?
  simp only [h]
  rfl
theorem ints_two (W : World) (x y : Int) (t : TypeId) : IntsR (W.alloc (.cells #[.int .i64 x, .int .i64 y] t)) (W.heap.size + 1) (.slice (some ⟨W.heap.size, 0, none⟩) 2 2) [x, y] := by
  refine ⟨_, 2, W.heap.size, 0, rfl, fun _ => ⟨rfl, by omega⟩, fun j hj => ?_⟩
  have h := heap_alloc_new W (.cells #[.int .i64 x, .int .i64 y] t)
  simp only [List.length_cons, List.length_nil] at hj
  have hj2 : j = 0 \/ j = 1 := by omega
  rcases hj2 with rfl | rfl <;> (unfold World.cell?; simp only [h]; rfl)
set_option maxRecDepth 100000 in
set_option maxHeartbeats 1000000 in
theorem rleads_any (f : Pu.Fn) (a : Nat) (x : FV) (w : World) (hf : FnR w w.heap.size x f) (hnc : f.code.length <= 1000) (harg : 0 <= (f.code.getD a (0, 0)).2) (ha : a < f.code.length) :
    Calls Tryz.prog 75 #[.agg #[x.p, x.r, x.l, x.c], .int .i64 a] w fun e w' => RLead w w' f a (f.code.getD a (0, 0)) e := by
  obtain ⟨x1, y1, x2, y2, x3, y3, x4, y4, rfl⟩ := hf.shape
  obtain ⟨ac, cc', bc, oc, hcv, h1, h2⟩ := hf.c
  simp only [Value.slice.injEq, true_and] at hcv
  obtain ⟨rfl, rfl⟩ := hcv
  obtain ⟨rfl, hbB⟩ := h1 (by omega)
  obtain ⟨k0, k1⟩ := h2 a ha
  clear h1 h2
  have bl0 := (Below.refl w.heap.size w).alloc (Nat.le_refl _) (.cells #[.slice x1 f.params.length y1, .slice x2 f.results.length y2, .slice x3 f.locals.length y3, .slice (some ⟨bc, oc, none⟩) f.code.length y4] 62)
  have e0 := (bl0.cell (p := ⟨bc, oc + a * 2, none⟩) hbB).trans k0
  have e1 := (bl0.cell (p := ⟨bc, oc + a * 2 + 1, none⟩) hbB).trans k1
  generalize f.code.getD a (0, 0) = xx at *
  obtain ⟨op, arg⟩ := xx
  simp only at e0 e1 harg
  clear k0 k1 hf
  have wa : wrap64 ((a : Int) + 1) = (a : Int) + 1 := by unfold wrap64; omega
  have wa2 : IntKind.i64.wrap ((a : Int) + 1) = (a : Int) + 1 := IntWalk.i64_in _ (by omega)
  have bl1 : ∀ o : Obj, Below w.heap.size w ((w.alloc (.cells #[.slice x1 f.params.length y1, .slice x2 f.results.length y2, .slice x3 f.locals.length y3, .slice (some ⟨bc, oc, none⟩) f.code.length y4] 62)).alloc o) := fun o => bl0.alloc (by simp) o
  have bl2 : ∀ o o' : Obj, Below w.heap.size w (((w.alloc (.cells #[.slice x1 f.params.length y1, .slice x2 f.results.length y2, .slice x3 f.locals.length y3, .slice (some ⟨bc, oc, none⟩) f.code.length y4] 62)).alloc o).alloc o') := fun o o' => (bl1 o).alloc (by simp; omega) o'
  have BL1 := hid bl1
  have BL2 := hid bl2
  clear bl1 bl2 bl0
  go_enter Tryz.func75, Tryz.ntmps75
  by_cases h0 : op = 0
  · subst h0
    go_wp2_with fail
    go_ret2
    exact ⟨.slice none 0 0, by simp [nextS], by simp only [Fl.leads]; exact ints_none _ _, BL1.out _, fun k hk => by cases hk⟩
  by_cases h18 : op = 18
  · subst h18
    go_wp2_with fail
    go_ret2
    exact ⟨.slice none 0 0, by simp [nextS], by simp only [Fl.leads]; exact ints_none _ _, BL1.out _, fun k hk => by cases hk⟩
  have b0 : (op == 0) = false := by simpa using h0
  have b18 : (op == 18) = false := by simpa using h18
  by_cases h6 : op = 6
  · subst h6
    clear h0 h18 b0 b18
    have hl : (Fl.leads (6, arg) a).map Int.ofNat = [arg] := by simp [Fl.leads]; omega
    go_wp2_with fail
    go_ret2
    exact ⟨.slice (some ⟨w.heap.size + 1 + 1, 0, none⟩) 1 1, by simp [nextS], by rw [hl]; have h := ints_one (((w.alloc (.cells #[.slice x1 f.params.length y1, .slice x2 f.results.length y2, .slice x3 f.locals.length y3, .slice (some ⟨bc, oc, none⟩) f.code.length y4] 62)).alloc (.cells #[.int .i64 6, .int .i64 arg] 56))) arg 3; simp at h ⊢; exact h, BL2.out _ _, fun k hk => by cases hk; show _ <= w.heap.size + 1 + 1; omega⟩
  have b6 : (op == 6) = false := by simpa using h6
  by_cases h7 : op = 7
  · subst h7
    have hl : (Fl.leads (7, arg) a).map Int.ofNat = [arg, (a : Int) + 1] := by simp [Fl.leads]; omega
    have hx : nextS (7, arg) a f.code.length = decide ((a : Int) + 1 < (f.code.length : Int)) := by simp [nextS]; omega
    have FIN : RLead w (((w.alloc (.cells #[.slice x1 f.params.length y1, .slice x2 f.results.length y2, .slice x3 f.locals.length y3, .slice (some ⟨bc, oc, none⟩) f.code.length y4] 62)).alloc (.cells #[.int .i64 7, .int .i64 arg] 56)).alloc (.cells #[.int .i64 arg, .int .i64 ((a : Int) + 1)] 3)).drew f a (7, arg) (.returned (.tuple #[.slice (some ⟨w.heap.size + 1 + 1, 0, none⟩) 2 2, .bool (decide ((a : Int) + 1 < (f.code.length : Int)))])) := by
      refine ⟨.slice (some ⟨w.heap.size + 1 + 1, 0, none⟩) 2 2, by rw [hx], ?_, (BL2.out _ _).trans (Below.refl _ _).drew, fun k hk => by cases hk; show _ <= w.heap.size + 1 + 1; omega⟩
      rw [hl]
      have h := ints_two ((w.alloc (.cells #[.slice x1 f.params.length y1, .slice x2 f.results.length y2, .slice x3 f.locals.length y3, .slice (some ⟨bc, oc, none⟩) f.code.length y4] 62)).alloc (.cells #[.int .i64 7, .int .i64 arg] 56)) arg ((a : Int) + 1) 3
      simp only [World.size_alloc] at h
      exact (h.wide (by simp)).heap rfl
    have FIN := hid FIN
    clear hl hx
    go_wp2_with fail
    go_region_with fail
    all_goals (go_wp2_with fail; refine bodyPost_ret (v := .tuple #[.slice (some ⟨w.heap.size + 1 + 1, 0, none⟩) 2 2, .bool (decide ((a : Int) + 1 < (f.code.length : Int)))]) (by simp [results, Tryz.results75, go_sem]) rfl FIN.out)
  have b7 : (op == 7) = false := by simpa using h7
  have hl : (Fl.leads (op, arg) a).map Int.ofNat = [(a : Int) + 1] := by simp [Fl.leads, h0, h6, h7, h18]
  have hx : nextS (op, arg) a f.code.length = decide ((a : Int) + 1 < (f.code.length : Int)) := by simp [nextS, h0, h6, h18]; omega
  have FIN : RLead w (((w.alloc (.cells #[.slice x1 f.params.length y1, .slice x2 f.results.length y2, .slice x3 f.locals.length y3, .slice (some ⟨bc, oc, none⟩) f.code.length y4] 62)).alloc (.cells #[.int .i64 op, .int .i64 arg] 56)).alloc (.cells #[.int .i64 ((a : Int) + 1)] 3)).drew f a (op, arg) (.returned (.tuple #[.slice (some ⟨w.heap.size + 1 + 1, 0, none⟩) 1 1, .bool (decide ((a : Int) + 1 < (f.code.length : Int)))])) := by
    refine ⟨.slice (some ⟨w.heap.size + 1 + 1, 0, none⟩) 1 1, by rw [hx], ?_, (BL2.out _ _).trans (Below.refl _ _).drew, fun k hk => by cases hk; show _ <= w.heap.size + 1 + 1; omega⟩
    rw [hl]
    have h := ints_one ((w.alloc (.cells #[.slice x1 f.params.length y1, .slice x2 f.results.length y2, .slice x3 f.locals.length y3, .slice (some ⟨bc, oc, none⟩) f.code.length y4] 62)).alloc (.cells #[.int .i64 op, .int .i64 arg] 56)) ((a : Int) + 1) 3
    simp only [World.size_alloc] at h
    exact (h.wide (by simp)).heap rfl
  have FIN := hid FIN
  clear hl hx
  clear h0 h6 h7 h18
  go_wp2_with fail
  go_region_with fail
  all_goals (go_wp2_with fail; refine bodyPost_ret (v := .tuple #[.slice (some ⟨w.heap.size + 1 + 1, 0, none⟩) 1 1, .bool (decide ((a : Int) + 1 < (f.code.length : Int)))]) (by simp [results, Tryz.results75, go_sem]) rfl FIN.out)
end Go.Proofs.YtjamgmbdilkbcaaGreat
