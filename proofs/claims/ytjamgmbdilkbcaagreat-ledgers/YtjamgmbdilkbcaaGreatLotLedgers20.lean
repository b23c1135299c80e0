import Derived.Test.YtjamgmbdilkbcaaGreatLotLedgers18
import Derived.Test.YtjamgmbdilkbcaaGreatLotLedgers19
/- The document's gathering of what is reached, plainly. No program here. -/
namespace Go.Proofs.YtjamgmbdilkbcaaGreat

structure StWf (m : Pu.Md) (f : Pu.Fn) (t : Fl.S) : Prop where
  ok : StOk m t
  off : ∀ i, (Fl.places f).length <= i -> t.full.getD i false = false
theorem put_full {t u : Fl.S} {k : Int} (h : Fl.putS k t = some u) : u.full = t.full := by
  unfold Fl.putS at h; split at h <;> cases h; rfl
theorem take_full {t u : Fl.S} {k : Int} (h : Fl.takeS k t = some u) : u.full = t.full := by
  unfold Fl.takeS at h; split at h <;> cases h; rfl
theorem takes_full : ∀ {l : List Int} {t u : Fl.S}, Fl.takesS l t = some u -> u.full = t.full
  | [], t, u, h => by simp only [Fl.takesS] at h; cases h; rfl
  | k :: l, t, u, h => by
    simp only [Fl.takesS] at h
    obtain ⟨v, hv, h2⟩ := Option.bind_eq_some_iff.1 h
    rw [takes_full h2, take_full hv]
theorem puts_full : ∀ {l : List Int} {t u : Fl.S}, Fl.putsS l t = some u -> u.full = t.full
  | [], t, u, h => by simp only [Fl.putsS] at h; cases h; rfl
  | k :: l, t, u, h => by
    simp only [Fl.putsS] at h
    obtain ⟨v, hv, h2⟩ := Option.bind_eq_some_iff.1 h
    rw [puts_full h2, put_full hv]
theorem getD_setB (l : List Bool) (j k : Nat) (b : Bool) (hb : b = false \/ k ≠ j) (h : l.getD k false = false) : (l.set j b).getD k false = false := by
  rw [List.getD_eq_getElem?_getD] at h ⊢
  by_cases hkj : k = j
  · subst hkj
    rcases hb with rfl | hb
    · by_cases hk : k < l.length
      · rw [List.getElem?_set_self hk]; rfl
      · rw [List.getElem?_eq_none (by simp; omega)]; rfl
    · exact absurd rfl hb
  · rw [List.getElem?_set_ne (fun e => hkj e.symm)]; exact h
theorem after_full {m : Pu.Md} {f : Pu.Fn} {x : Int × Int} {t u : Fl.S} (h : Fl.after m f x t = some u) :
    u.full = t.full \/ u.full = t.full.set x.2.toNat false \/ (x.1 = 10 /\ u.full = t.full.set x.2.toNat true) := by
  unfold Fl.after at h
  by_cases h0 : x.1 = 0
  · rw [if_pos h0] at h; unfold Fl.retS at h; split at h <;> cases h; exact .inl rfl
  rw [if_neg h0] at h
  by_cases h1 : x.1 = 1
  · rw [if_pos h1] at h; exact .inl (put_full h)
  rw [if_neg h1] at h
  by_cases h2 : x.1 = 2 \/ x.1 = 3 \/ x.1 = 4 \/ x.1 = 5
  · rw [if_pos h2] at h
    obtain ⟨u, hu, g⟩ := Option.bind_eq_some_iff.1 h
    obtain ⟨v, hv, g2⟩ := Option.bind_eq_some_iff.1 hu
    exact .inl (by rw [put_full g, take_full g2, take_full hv])
  rw [if_neg h2] at h
  by_cases h7 : x.1 = 7
  · rw [if_pos h7] at h; exact .inl (take_full h)
  rw [if_neg h7] at h
  by_cases h8 : x.1 = 8
  · rw [if_pos h8] at h; unfold Fl.copyS at h; split at h
    · exact .inl (put_full h)
    · cases h
  rw [if_neg h8] at h
  by_cases h9 : x.1 = 9
  · rw [if_pos h9] at h; unfold Fl.moveS at h; split at h
    · exact .inr (.inl (put_full h))
    · cases h
  rw [if_neg h9] at h
  by_cases h10 : x.1 = 10
  · rw [if_pos h10] at h; unfold Fl.keepS at h
    obtain ⟨u, hu, g⟩ := Option.bind_eq_some_iff.1 h
    split at g
    · cases g; exact .inr (.inr ⟨h10, by simp only; rw [take_full hu]⟩)
    · cases g
  rw [if_neg h10] at h
  by_cases h11 : x.1 = 11
  · rw [if_pos h11] at h; unfold Fl.dropS at h; split at h
    · cases h; exact .inl rfl
    · cases h
  rw [if_neg h11] at h
  by_cases h12 : x.1 = 12
  · rw [if_pos h12] at h
    obtain ⟨u, hu, g⟩ := Option.bind_eq_some_iff.1 h
    exact .inl (by rw [put_full g, take_full hu])
  rw [if_neg h12] at h
  by_cases h13 : x.1 = 13
  · rw [if_pos h13] at h
    obtain ⟨u, hu, g⟩ := Option.bind_eq_some_iff.1 h
    exact .inl (by rw [put_full g, take_full hu])
  rw [if_neg h13] at h
  by_cases h14 : x.1 = 14
  · rw [if_pos h14] at h; unfold Fl.callS at h
    obtain ⟨u, hu, g⟩ := Option.bind_eq_some_iff.1 h
    exact .inl (by rw [puts_full g, takes_full hu])
  rw [if_neg h14] at h
  by_cases h15 : x.1 = 15
  · rw [if_pos h15] at h; exact .inl (put_full h)
  rw [if_neg h15] at h
  by_cases h16 : x.1 = 16
  · rw [if_pos h16] at h
    obtain ⟨u, hu, g⟩ := Option.bind_eq_some_iff.1 h
    exact .inl (by rw [take_full g, take_full hu])
  rw [if_neg h16] at h
  by_cases h17 : x.1 = 17
  · rw [if_pos h17] at h
    obtain ⟨u, hu, g⟩ := Option.bind_eq_some_iff.1 h
    exact .inl (by rw [put_full g, take_full hu])
  rw [if_neg h17] at h
  cases h
  exact .inl rfl
theorem after_wf {m : Pu.Md} {f : Pu.Fn} {x : Int × Int} {t u : Fl.S} (po : PutOk m f x) (ao : ArgOk m f x.1 x.2) (wf : StWf m f t) (h : Fl.after m f x t = some u) : StWf m f u := by
  refine ⟨after_ok po wf.ok h, fun i hi => ?_⟩
  rcases after_full h with e | e | ⟨h10, e⟩
  · rw [e]; exact wf.off i hi
  · rw [e]; exact getD_setB _ _ _ _ (.inl rfl) (wf.off i hi)
  · rw [e]
    have := ao.2.1 (.inr (.inr h10))
    exact getD_setB _ _ _ _ (.inr (by omega)) (wf.off i hi)
theorem init_wf (m : Pu.Md) (f : Pu.Fn) (hp : (Fl.places f).length <= 8) : StWf m f (Fl.init f) := by
  have h1 : f.params.length <= (Fl.places f).length := by unfold Fl.places; simp
  refine ⟨⟨by simp [Fl.init], by simp [Fl.init]; omega, fun k hk => by simp [Fl.init] at hk⟩, fun i hi => ?_⟩
  unfold Fl.init
  simp only
  rw [List.getD_eq_getElem?_getD, List.getElem?_append_right (by simp; omega)]
  by_cases h : i - f.params.length < 8 - f.params.length
  · rw [List.getElem?_replicate, List.length_replicate, if_pos h]; rfl
  · rw [List.getElem?_replicate, List.length_replicate, if_neg h]; rfl
theorem nodup_len : ∀ (n : Nat) (l : List Nat), l.Nodup -> (∀ x ∈ l, x < n) -> l.length <= n
  | 0, l, _, h => by
    cases l with
    | nil => simp
    | cons a l => exact absurd (h a (by simp)) (by omega)
  | n + 1, l, hd, h => by
    by_cases hn : n ∈ l
    · have h1 := nodup_len n (l.erase n) (hd.erase n) (fun x hx => by
        have h2 := (List.Nodup.mem_erase_iff hd).1 hx
        have := h x h2.2
        omega)
      rw [List.length_erase_of_mem hn] at h1
      omega
    · have h1 := nodup_len n l hd (fun x hx => by
        have := h x hx
        have : x ≠ n := fun e => hn (e ▸ hx)
        omega)
      omega
def Clo (m : Pu.Md) (f : Pu.Fn) (D : List (Nat × Fl.S)) (x : Nat × Fl.S) : Prop :=
  ∃ s', Fl.after m f (f.code.getD x.1 (0, 0)) x.2 = some s' /\ ∀ k ∈ Fl.leads (f.code.getD x.1 (0, 0)) x.1, (k, s') ∈ D
theorem Clo.more {m : Pu.Md} {f : Pu.Fn} {D : List (Nat × Fl.S)} {x : Nat × Fl.S} (h : Clo m f D x) (y : Nat × Fl.S) : Clo m f (D ++ [y]) x := by
  obtain ⟨s', h1, h2⟩ := h
  exact ⟨s', h1, fun k hk => List.mem_append_left _ (h2 k hk)⟩
structure RInv (m : Pu.Md) (f : Pu.Fn) (D T : List (Nat × Fl.S)) (p : Option (Nat × Fl.S)) : Prop where
  good : ∀ τ, Fl.Good m f τ -> ∀ x ∈ D, τ x.1 = some x.2
  sub : ∀ x ∈ T, x ∈ D
  start : (0, Fl.init f) ∈ D
  nd : (D.map Prod.fst).Nodup
  lt : ∀ x ∈ D, x.1 < f.code.length
  closed : ∀ x ∈ D, x ∉ T -> some x ≠ p -> Clo m f D x
  wf : ∀ x ∈ D, StWf m f x.2
  tl : T.length <= D.length
theorem RInv.len {m : Pu.Md} {f : Pu.Fn} {D T : List (Nat × Fl.S)} {p : Option (Nat × Fl.S)} (h : RInv m f D T p) : D.length <= f.code.length := by
  have := nodup_len f.code.length (D.map Prod.fst) h.nd (fun x hx => by
    obtain ⟨y, hy, rfl⟩ := List.mem_map.1 hx
    exact h.lt y hy)
  simpa using this
theorem rinv_start (m : Pu.Md) (f : Pu.Fn) (hp : (Fl.places f).length <= 8) (hc : 0 < f.code.length) : RInv m f [(0, Fl.init f)] [(0, Fl.init f)] none := by
  refine ⟨fun τ hτ x hx => ?_, fun x hx => hx, by simp, by simp, fun x hx => ?_, fun x hx h => absurd hx h, fun x hx => ?_, Nat.le_refl _⟩
  · rw [List.mem_singleton] at hx; subst hx; exact hτ.start
  · rw [List.mem_singleton] at hx; subst hx; exact hc
  · rw [List.mem_singleton] at hx; subst hx; exact init_wf m f hp
theorem rinv_pop {m : Pu.Md} {f : Pu.Fn} {D T : List (Nat × Fl.S)} {p : Nat × Fl.S} (h : RInv m f D (T ++ [p]) none) : RInv m f D T (some p) /\ p ∈ D := by
  refine ⟨⟨h.good, fun x hx => h.sub x (List.mem_append_left _ hx), h.start, h.nd, h.lt, fun x hx hT hp => h.closed x hx (fun hm => ?_) (by simp), h.wf, by have := h.tl; simp at this; omega⟩, h.sub p (by simp)⟩
  rcases List.mem_append.1 hm with hm | hm
  · exact hT hm
  · rw [List.mem_singleton] at hm; subst hm; exact hp rfl
theorem rinv_lead {m : Pu.Md} {f : Pu.Fn} {D T : List (Nat × Fl.S)} {p : Option (Nat × Fl.S)} (h : RInv m f D T p) {q : Nat × Fl.S} (hg : ∀ τ, Fl.Good m f τ -> τ q.1 = some q.2) (hl : q.1 < f.code.length) (hw : StWf m f q.2)
    (hq : q ∉ D) (ho : ∀ x ∈ D, x.1 = q.1 -> x = q) : RInv m f (D ++ [q]) (T ++ [q]) p := by
  refine ⟨fun τ hτ x hx => ?_, fun x hx => ?_, List.mem_append_left _ h.start, ?_, fun x hx => ?_, fun x hx hT hp => ?_, fun x hx => ?_, by have := h.tl; simp; omega⟩
  · rcases List.mem_append.1 hx with hx | hx
    · exact h.good τ hτ x hx
    · rw [List.mem_singleton] at hx; subst hx; exact hg τ hτ
  · rcases List.mem_append.1 hx with hx | hx
    · exact List.mem_append_left _ (h.sub x hx)
    · exact List.mem_append_right _ hx
  · rw [List.map_append, List.map_singleton, List.nodup_append]
    refine ⟨h.nd, by simp, fun a ha b hb => ?_⟩
    rw [List.mem_singleton] at hb
    subst hb
    rintro rfl
    obtain ⟨y, hy, hyq⟩ := List.mem_map.1 ha
    exact hq (ho y hy hyq ▸ hy)
  · rcases List.mem_append.1 hx with hx | hx
    · exact h.lt x hx
    · rw [List.mem_singleton] at hx; subst hx; exact hl
  · rcases List.mem_append.1 hx with hx | hx
    · exact (h.closed x hx (fun hm => hT (List.mem_append_left _ hm)) hp).more q
    · exact absurd (List.mem_append_right T hx) hT
  · rcases List.mem_append.1 hx with hx | hx
    · exact h.wf x hx
    · rw [List.mem_singleton] at hx; subst hx; exact hw
theorem rinv_close {m : Pu.Md} {f : Pu.Fn} {D T : List (Nat × Fl.S)} {p : Nat × Fl.S} (h : RInv m f D T (some p)) (hc : Clo m f D p) : RInv m f D T none := by
  refine ⟨h.good, h.sub, h.start, h.nd, h.lt, fun x hx hT _ => ?_, h.wf, h.tl⟩
  by_cases hp : x = p
  · subst hp; exact hc
  · exact h.closed x hx hT (fun e => hp (Option.some.inj e))
theorem nodup_fun {D : List (Nat × Fl.S)} (hd : (D.map Prod.fst).Nodup) {x y : Nat × Fl.S} (hx : x ∈ D) (hy : y ∈ D) (h : x.1 = y.1) : x = y := by
  induction D with
  | nil => simp at hx
  | cons a D ih =>
    rw [List.map_cons, List.nodup_cons] at hd
    rcases List.mem_cons.1 hx with rfl | hx'
    · rcases List.mem_cons.1 hy with rfl | hy'
      · rfl
      · exact absurd (List.mem_map.2 ⟨y, hy', h.symm⟩) hd.1
    · rcases List.mem_cons.1 hy with rfl | hy'
      · exact absurd (List.mem_map.2 ⟨x, hx', h⟩) hd.1
      · exact ih hd.2 hx' hy'
theorem find_some {D : List (Nat × Fl.S)} (hd : (D.map Prod.fst).Nodup) {x : Nat × Fl.S} (hx : x ∈ D) : (D.find? fun y => decide (y.1 = x.1)).map Prod.snd = some x.2 := by
  cases h : D.find? fun y => decide (y.1 = x.1) with
  | none =>
    have := List.find?_eq_none.1 h x hx
    simp at this
  | some y =>
    have h1 := List.mem_of_find?_eq_some h
    have h2 := List.find?_some h
    simp only [decide_eq_true_eq] at h2
    rw [nodup_fun hd h1 hx h2]
    rfl
theorem rinv_end {m : Pu.Md} {f : Pu.Fn} {D : List (Nat × Fl.S)} (h : RInv m f D [] none) : Fl.Sound m f := by
  refine ⟨fun j => (D.find? fun y => decide (y.1 = j)).map Prod.snd, ⟨find_some h.nd (x := (0, Fl.init f)) h.start, fun i s hi => ?_⟩⟩
  cases hf : D.find? fun y => decide (y.1 = i) with
  | none => rw [hf] at hi; simp at hi
  | some y =>
    rw [hf] at hi
    simp only [Option.map_some, Option.some.injEq] at hi
    have h1 := List.mem_of_find?_eq_some hf
    have h2 := List.find?_some hf
    simp only [decide_eq_true_eq] at h2
    subst h2
    subst hi
    obtain ⟨s', ha, hk⟩ := h.closed y h1 (by simp) (by simp)
    exact ⟨h.lt y h1, s', ha, fun j hj => find_some h.nd (x := (j, s')) (hk j hj)⟩
theorem rinv_no {m : Pu.Md} {f : Pu.Fn} {D T : List (Nat × Fl.S)} {p : Option (Nat × Fl.S)} (h : RInv m f D T p) {x : Nat × Fl.S} (hx : x ∈ D) (hn : Fl.after m f (f.code.getD x.1 (0, 0)) x.2 = none) : ¬ Fl.Sound m f := by
  rintro ⟨τ, hτ⟩
  obtain ⟨_, s', h1, _⟩ := hτ.step _ _ (h.good τ hτ x hx)
  rw [hn] at h1
  cases h1
theorem rinv_good {m : Pu.Md} {f : Pu.Fn} {D T : List (Nat × Fl.S)} {p : Option (Nat × Fl.S)} (h : RInv m f D T p) {x : Nat × Fl.S} (hx : x ∈ D) {s' : Fl.S} (ha : Fl.after m f (f.code.getD x.1 (0, 0)) x.2 = some s') {j : Nat} (hj : j ∈ Fl.leads (f.code.getD x.1 (0, 0)) x.1) (τ : Nat -> Option Fl.S) (hτ : Fl.Good m f τ) : τ j = some s' := by
  obtain ⟨_, s2, h1, h2⟩ := hτ.step _ _ (h.good τ hτ x hx)
  rw [ha] at h1
  cases h1
  exact h2 j hj
theorem rinv_next {m : Pu.Md} {f : Pu.Fn} {D T : List (Nat × Fl.S)} {p : Option (Nat × Fl.S)} (h : RInv m f D T p) {x : Nat × Fl.S} (hx : x ∈ D) {s' : Fl.S} (ha : Fl.after m f (f.code.getD x.1 (0, 0)) x.2 = some s') {j : Nat} (hj : j ∈ Fl.leads (f.code.getD x.1 (0, 0)) x.1) (hl : ¬ j < f.code.length) : ¬ Fl.Sound m f := by
  rintro ⟨τ, hτ⟩
  exact hl (hτ.step j s' (rinv_good h hx ha hj τ hτ)).1
theorem rinv_other {m : Pu.Md} {f : Pu.Fn} {D T : List (Nat × Fl.S)} {p : Option (Nat × Fl.S)} (h : RInv m f D T p) {x : Nat × Fl.S} (hx : x ∈ D) {s' : Fl.S} (ha : Fl.after m f (f.code.getD x.1 (0, 0)) x.2 = some s') {j : Nat} (hj : j ∈ Fl.leads (f.code.getD x.1 (0, 0)) x.1) {y : Nat × Fl.S} (hy : y ∈ D) (h1 : y.1 = j) (h2 : y.2 ≠ s') : ¬ Fl.Sound m f := by
  rintro ⟨τ, hτ⟩
  have h3 := h.good τ hτ y hy
  rw [h1, rinv_good h hx ha hj τ hτ] at h3
  exact h2 (Option.some.inj h3).symm
theorem lt_inj' {a b : Int} (ha : 0 <= a /\ a <= 100) (hb : 0 <= b /\ b <= 100) (h : lt a = lt b) : a = b := by
  have h1 := lt_val a ha
  have h2 := lt_val b hb
  rw [h] at h1
  omega
theorem lt_45 {a : Int} (ha : 0 <= a /\ a <= 100) : lt a ≠ 45 := by
  intro h
  have h1 := lt_val a ha
  rw [h] at h1
  have h2 : ((45 : UInt8).toNat : Int) = 45 := rfl
  omega
theorem map_lt_inj' : ∀ (l r : List Int), (∀ k ∈ l, 0 <= k /\ k <= 100) -> (∀ k ∈ r, 0 <= k /\ k <= 100) -> l.map lt = r.map lt -> l = r
  | [], [], _, _, _ => rfl
  | [], _ :: _, _, _, h => by simp at h
  | _ :: _, [], _, _, h => by simp at h
  | a :: l, b :: r, h1, h2, h => by
    simp only [List.map_cons, List.cons.injEq] at h
    rw [lt_inj' (h1 a (by simp)) (h2 b (by simp)) h.1, map_lt_inj' l r (fun k hk => h1 k (by simp [hk])) (fun k hk => h2 k (by simp [hk])) h.2]
theorem spots_inj : ∀ (pl : List Int) (x y : List Bool), (∀ k ∈ pl, 0 <= k /\ k <= 100) -> pl.length <= x.length -> pl.length <= y.length -> spots pl x = spots pl y -> ∀ i, i < pl.length -> x.getD i false = y.getD i false
  | [], _, _, _, _, _, _, i, hi => by simp at hi
  | a :: pl, [], _, _, h, _, _, _, _ => by simp at h
  | a :: pl, _ :: _, [], _, _, h, _, _, _ => by simp at h
  | a :: pl, b :: x, c :: y, hk, h1, h2, h, i, hi => by
    simp only [spots, List.zipWith_cons_cons, List.cons.injEq] at h
    cases i with
    | zero =>
      simp only [List.getD_cons_zero]
      have h3 := h.1
      have h4 := lt_45 (hk a (by simp))
      unfold spot at h3
      cases b <;> cases c <;> simp_all
    | succ i =>
      simp only [List.getD_cons_succ]
      exact spots_inj pl x y (fun k hk' => hk k (by simp [hk'])) (by simpa using h1) (by simpa using h2) h.2 i (by simpa using hi)
theorem bs_inj {a b : List UInt8} (h : bs a = bs b) : a = b := by
  unfold bs at h
  have := congrArg (fun x => x.data.toList) h
  simpa using this
theorem st_inj {m : Pu.Md} {f : Pu.Fn} {t u : Fl.S} (ht : StWf m f t) (hu : StWf m f u) (hk : m.kinds.length <= 100) (hpl : ∀ k ∈ Fl.places f, 0 <= k /\ k <= m.kinds.length) (hp : (Fl.places f).length <= 8)
    (h1 : str t.stk = str u.stk) (h2 : bs (spots (Fl.places f) t.full) = bs (spots (Fl.places f) u.full)) : t = u := by
  obtain ⟨ts, tf⟩ := t
  obtain ⟨us, uf⟩ := u
  have hf1 := ht.ok.full
  have hf2 := hu.ok.full
  simp only at h1 h2 hf1 hf2
  rw [str_bs, str_bs] at h1
  have e1 := map_lt_inj' ts us (fun k hk' => by have := ht.ok.kinds k hk'; omega) (fun k hk' => by have := hu.ok.kinds k hk'; omega) (bs_inj h1)
  have e2 := spots_inj (Fl.places f) tf uf (fun k hk' => by have := hpl k hk'; omega) (by omega) (by omega) (bs_inj h2)
  subst e1
  congr 1
  refine List.ext_getElem (by omega) fun i hi1 hi2 => ?_
  have e3 : tf.getD i false = uf.getD i false := by
    by_cases hi : i < (Fl.places f).length
    · exact e2 i hi
    · have h3 := ht.off i (by omega)
      have h4 := hu.off i (by omega)
      simp only at h3 h4
      rw [h3, h4]
  rw [List.getD_eq_getElem?_getD, List.getD_eq_getElem?_getD, List.getElem?_eq_getElem hi1, List.getElem?_eq_getElem hi2] at e3
  simpa using e3
end Go.Proofs.YtjamgmbdilkbcaaGreat

/- The document's Sound: how it begins. -/
namespace Go.Proofs.YtjamgmbdilkbcaaGreat
open Go.RowKit

def encP (f : Pu.Fn) (x : Nat × Fl.S) : Pr := ⟨x.1, str x.2.stk, bs (spots (Fl.places f) x.2.full)⟩
def pc (x : Pr) : List Value := [.int .i64 x.at_, .string x.s, .string x.p]
def dc (l : List Pr) : List Value := l.flatMap pc
theorem dc_len (l : List Pr) : (dc l).length = l.length * 3 := by
  induction l with
  | nil => rfl
  | cons a l ih => simp only [dc, List.flatMap_cons, List.length_append, pc, List.length_cons, List.length_nil] at ih ⊢; omega
theorem dc_snoc (l : List Pr) (x : Pr) : dc (l ++ [x]) = dc l ++ pc x := by simp [dc]
theorem dc_get : ∀ (l : List Pr) (j : Nat), j < l.length -> (dc l)[j * 3]? = some (.int .i64 (l.getD j prD).at_) /\ (dc l)[j * 3 + 1]? = some (.string (l.getD j prD).s) /\ (dc l)[j * 3 + 2]? = some (.string (l.getD j prD).p)
  | [], j, h => by simp at h
  | x :: l, 0, _ => ⟨rfl, rfl, rfl⟩
  | x :: l, j + 1, h => by
    have ih := dc_get l j (by simpa using h)
    have e : dc (x :: l) = pc x ++ dc l := by simp [dc]
    have hp : (pc x).length = 3 := rfl
    rw [e, List.getElem?_append_right (by rw [hp]; omega), List.getElem?_append_right (by rw [hp]; omega), List.getElem?_append_right (by rw [hp]; omega), hp, show (j + 1) * 3 - 3 = j * 3 from by omega, show (j + 1) * 3 + 1 - 3 = j * 3 + 1 from by omega, show (j + 1) * 3 + 2 - 3 = j * 3 + 2 from by omega, List.getD_cons_succ]
    exact ih
theorem owns_pairs {w : World} {B : Nat} {v : Value} {l : List Pr} (h : w.ownsRow B 158 3 v l.length (dc l)) : PairsR w w.heap.size v l := by
  rcases h.2 with ⟨rfl, h0⟩ | ⟨g, cap, cur, rfl, hB, hg, hnc, hcm, hcs, htake⟩
  · have hl : l = [] := List.eq_nil_of_length_eq_zero (by simpa using h0)
    subst hl
    exact ⟨none, 0, 0, 0, rfl, fun h => absurd h (by simp), fun j hj => absurd hj (by simp)⟩
  · refine ⟨_, cap, g, 0, rfl, fun _ => ⟨rfl, (Array.getElem?_eq_some_iff.1 hg).1⟩, fun j hj => ?_⟩
    have hc : ∀ i, i < l.length * 3 -> w.cell? ⟨g, i, none⟩ = (dc l)[i]? := fun i hi => by
      unfold World.cell?
      simp only [hg]
      rw [<- htake, List.getElem?_take, if_pos hi]
      simp
    obtain ⟨e0, e1, e2⟩ := dc_get l j hj
    refine ⟨?_, ?_, ?_⟩
    · rw [Nat.zero_add, hc _ (by omega), e0]
    · rw [Nat.zero_add, hc _ (by omega), e1]
    · rw [Nat.zero_add, hc _ (by omega), e2]
theorem spots_init (f : Pu.Fn) (hp : (Fl.places f).length <= 8) : spots (Fl.places f) (Fl.init f).full = f.params.map lt ++ List.replicate f.locals.length 45 := by
  unfold spots Fl.init Fl.places
  unfold Fl.places at hp
  rw [List.length_append] at hp
  simp only
  rw [List.zipWith_append (by simp)]
  congr 1
  · generalize f.params = l
    induction l with
    | nil => rfl
    | cons a l ih => simp only [List.length_cons, List.replicate_succ, List.zipWith_cons_cons, List.map_cons, ih]; rfl
  · have h8 : f.locals.length <= 8 - f.params.length := by omega
    generalize 8 - f.params.length = n at h8
    generalize f.locals = l at h8
    clear hp
    induction l generalizing n with
    | nil => simp
    | cons a l ih =>
      cases n with
      | zero => simp at h8
      | succ n => simp only [List.replicate_succ, List.zipWith_cons_cons, List.length_cons]; rw [ih n (by simpa using h8)]; rfl
def RSndOut (w w' : World) (m : Pu.Md) (f : Pu.Fn) (e : Ending) : Prop := ∃ b, e = .returned (.bool b) /\ (b = true ↔ Fl.Sound m f) /\ Below w.heap.size w w'
structure MF (w wr : World) (mk mv : Value) (x : FV) : Prop where
  m : F2 wr w.heap.size 38 mk mv
  f : F4 wr (w.heap.size + 1) 62 x.p x.r x.l x.c
  bl : Below w.heap.size w wr
  sz : w.heap.size + 2 <= wr.heap.size
theorem MF.below {w wr w' : World} {mk mv : Value} {x : FV} (h : MF w wr mk mv x) {B : Nat} (hb : Below B wr w') (hB : w.heap.size + 2 <= B) : MF w w' mk mv x :=
  ⟨(hb.block _ (by omega)).trans h.m, (hb.block _ (by omega)).trans h.f, h.bl.trans (hb.mono (by omega)), Nat.le_trans h.sz hb.size⟩
theorem ints_block {w w' : World} {B B' : Nat} {v : Value} {l : List Int} (h : IntsR w B v l) (hB : B <= B') (hb : 0 < l.length -> ∀ k, v.ownBlock = some k -> w'.heap[k]? = w.heap[k]?) : IntsR w' B' v l := by
  obtain ⟨ao, cap, b, off, rfl, h1, h2⟩ := h
  refine ⟨ao, cap, b, off, rfl, fun hl => ⟨(h1 hl).1, Nat.lt_of_lt_of_le (h1 hl).2 hB⟩, fun j hj => ?_⟩
  have hl : 0 < l.length := by omega
  rw [World.cell?_of_block (w := w) (hb hl b (by rw [(h1 hl).1]; rfl)), h2 j hj]
structure LS (w wr : World) (f : Pu.Fn) (mk mv : Value) (x : FV) (d t : Value) (D T : List (Nat × Fl.S)) : Prop where
  mf : MF w wr mk mv x
  od : wr.ownsRow (w.heap.size + 2) 158 3 d (D.map (encP f)).length (dc (D.map (encP f)))
  ot : wr.ownsRow (w.heap.size + 2) 158 3 t (T.map (encP f)).length (dc (T.map (encP f)))
  ne : ∀ k, d.ownBlock = some k -> t.ownBlock ≠ some k
section
variable {w wr w' : World} {f : Pu.Fn} {mk mv : Value} {x : FV} {d t : Value} {D T : List (Nat × Fl.S)}
theorem LS.below (h : LS w wr f mk mv x d t D T) (hb : Below wr.heap.size wr w') : LS w w' f mk mv x d t D T :=
  ⟨h.mf.below hb h.mf.sz, owns_block h.od fun k hk => hb.block k (h.od.lt k hk).2, owns_block h.ot fun k hk => hb.block k (h.ot.lt k hk).2, h.ne⟩
theorem LS.set (h : LS w wr f mk mv x d t D T) {q i : Nat} (v : Value) (hq : w.heap.size + 2 <= q) (hd : d.ownBlock ≠ some q) (ht : t.ownBlock ≠ some q) : LS w (wr.setCell ⟨q, i, none⟩ v) f mk mv x d t D T :=
  ⟨h.mf.below ((Below.refl (w.heap.size + 2) wr).setCell (p := ⟨q, i, none⟩) hq v) (Nat.le_refl _),
   owns_block h.od fun k hk => Below.heap_setCell _ _ _ _ (by rintro rfl; exact hd hk),
   owns_block h.ot fun k hk => Below.heap_setCell _ _ _ _ (by rintro rfl; exact ht hk), h.ne⟩
end

structure LJ (w wr : World) (f : Pu.Fn) (mk mv : Value) (x : FV) (d t : Value) (D T : List (Nat × Fl.S)) (q : Nat) (a0 : Value) (s1 s2 : ByteArray) (lv : Value) (L : List Int) : Prop where
  ls : LS w wr f mk mv x d t D T
  bq : F3 wr q 158 a0 (.string s1) (.string s2)
  l : IntsR wr wr.heap.size lv L
  Q : w.heap.size + 2 <= q
  dq : d.ownBlock ≠ some q
  tq : t.ownBlock ≠ some q
  dl : 0 < L.length -> ∀ k, lv.ownBlock = some k -> k < wr.heap.size /\ d.ownBlock ≠ some k /\ t.ownBlock ≠ some k /\ k ≠ q
section
variable {w wr w' : World} {f : Pu.Fn} {mk mv : Value} {x : FV} {d t : Value} {D T : List (Nat × Fl.S)} {q : Nat} {a0 : Value} {s1 s2 : ByteArray} {lv : Value} {L : List Int}
theorem LJ.below (h : LJ w wr f mk mv x d t D T q a0 s1 s2 lv L) (hb : Below wr.heap.size wr w') : LJ w w' f mk mv x d t D T q a0 s1 s2 lv L :=
  ⟨h.ls.below hb, (hb.block _ h.bq.lt).trans h.bq, ints_block h.l hb.size fun hl k hk => hb.block k (h.dl hl k hk).1, h.Q, h.dq, h.tq, fun hl k hk => ⟨Nat.lt_of_lt_of_le (h.dl hl k hk).1 hb.size, (h.dl hl k hk).2⟩⟩
theorem LJ.set (h : LJ w wr f mk mv x d t D T q a0 s1 s2 lv L) (v : Value) : LJ w (wr.setCell ⟨q, 0, none⟩ v) f mk mv x d t D T q v s1 s2 lv L :=
  ⟨h.ls.set v h.Q h.dq h.tq, h.bq.set0 v, ints_block h.l (by simp) fun hl k hk => Below.heap_setCell _ _ _ _ (h.dl hl k hk).2.2.2, h.Q, h.dq, h.tq, fun hl k hk => ⟨by simpa using (h.dl hl k hk).1, (h.dl hl k hk).2⟩⟩
theorem LJ.moreD (h : LJ w wr f mk mv x d t D T q a0 s1 s2 lv L) {d' : Value} {D' : List (Nat × Fl.S)} (hg : wr.grownBy w' d.ownBlock) (ho : w'.ownsRow (w.heap.size + 2) 158 3 d' (D'.map (encP f)).length (dc (D'.map (encP f)))) (hb : d'.ownBlock = d.ownBlock \/ d'.ownBlock = some wr.heap.size) : LJ w w' f mk mv x d' t D' T q a0 s1 s2 lv L := by
  have hlo : ∀ k, d.ownBlock = some k -> w.heap.size + 2 <= k := fun k hk => (h.ls.od.lt k hk).1
  have hbel : Below (w.heap.size + 2) wr w' := (Below.refl _ _).grown hg h.ls.mf.sz hlo
  have hnew : ∀ k, k < wr.heap.size -> d.ownBlock ≠ some k -> d'.ownBlock ≠ some k := fun k hk hn e => by
    rcases hb with hb | hb
    · rw [hb] at e; exact hn e
    · rw [hb] at e; cases e; omega
  refine ⟨⟨h.ls.mf.below hbel (Nat.le_refl _), ho, owns_block h.ls.ot fun k hk => hg.block k (h.ls.ot.lt k hk).2 (fun e => h.ls.ne k e.symm hk), fun k hk e => ?_⟩, (hg.block _ h.bq.lt fun e => h.dq e.symm).trans h.bq, ints_block h.l hg.size fun hl k hk => hg.block k (h.dl hl k hk).1 fun e => (h.dl hl k hk).2.1 e.symm, h.Q, hnew q h.bq.lt h.dq, h.tq, fun hl k hk => ⟨Nat.lt_of_lt_of_le (h.dl hl k hk).1 hg.size, hnew k (h.dl hl k hk).1 (h.dl hl k hk).2.1, (h.dl hl k hk).2.2⟩⟩
  exact hnew k (h.ls.ot.lt k e).2 (fun e2 => h.ls.ne k e2 e) hk
theorem LJ.moreT (h : LJ w wr f mk mv x d t D T q a0 s1 s2 lv L) {t' : Value} {T' : List (Nat × Fl.S)} (hg : wr.grownBy w' t.ownBlock) (ho : w'.ownsRow (w.heap.size + 2) 158 3 t' (T'.map (encP f)).length (dc (T'.map (encP f)))) (hb : t'.ownBlock = t.ownBlock \/ t'.ownBlock = some wr.heap.size) : LJ w w' f mk mv x d t' D T' q a0 s1 s2 lv L := by
  have hlo : ∀ k, t.ownBlock = some k -> w.heap.size + 2 <= k := fun k hk => (h.ls.ot.lt k hk).1
  have hbel : Below (w.heap.size + 2) wr w' := (Below.refl _ _).grown hg h.ls.mf.sz hlo
  have hnew : ∀ k, k < wr.heap.size -> t.ownBlock ≠ some k -> t'.ownBlock ≠ some k := fun k hk hn e => by
    rcases hb with hb | hb
    · rw [hb] at e; exact hn e
    · rw [hb] at e; cases e; omega
  exact ⟨⟨h.ls.mf.below hbel (Nat.le_refl _), owns_block h.ls.od fun k hk => hg.block k (h.ls.od.lt k hk).2 (fun e => h.ls.ne k hk e.symm), ho, fun k hk => hnew k (h.ls.od.lt k hk).2 (h.ls.ne k hk)⟩, (hg.block _ h.bq.lt fun e => h.tq e.symm).trans h.bq, ints_block h.l hg.size fun hl k hk => hg.block k (h.dl hl k hk).1 fun e => (h.dl hl k hk).2.2.1 e.symm, h.Q, h.dq, hnew q h.bq.lt h.tq, fun hl k hk => ⟨Nat.lt_of_lt_of_le (h.dl hl k hk).1 hg.size, (h.dl hl k hk).2.1, hnew k (h.dl hl k hk).1 (h.dl hl k hk).2.2.1, (h.dl hl k hk).2.2.2⟩⟩
end

theorem enc_inj {m : Pu.Md} {f : Pu.Fn} (mo : MdOk m) (fl : FnLow m f) (hp : (Fl.places f).length <= 8) {a b : Nat × Fl.S} (ha : StWf m f a.2) (hb : StWf m f b.2) (h : encP f a = encP f b) : a = b := by
  obtain ⟨a1, a2⟩ := a
  obtain ⟨b1, b2⟩ := b
  unfold encP at h
  simp only [Pr.mk.injEq] at h
  obtain ⟨rfl, h2, h3⟩ := h
  have e : a2 = b2 := st_inj ha hb mo.nk fl.pl hp h2 h3
  rw [e]
theorem isK_iff {m : Pu.Md} {f : Pu.Fn} (mo : MdOk m) (fl : FnLow m f) (hp : (Fl.places f).length <= 8) {D : List (Nat × Fl.S)} (hD : ∀ x ∈ D, StWf m f x.2) {q : Nat × Fl.S} (hq : StWf m f q.2) : isK (D.map (encP f)) (encP f q) = true ↔ q ∈ D := by
  unfold isK
  rw [decide_eq_true_eq, List.mem_map]
  constructor
  · rintro ⟨y, hy, e⟩
    rw [<- enc_inj mo fl hp (hD y hy) hq e]; exact hy
  · exact fun h => ⟨q, h, rfl⟩
theorem othK_yes {f : Pu.Fn} {D : List (Nat × Fl.S)} {q : Nat × Fl.S} (h : othK (D.map (encP f)) (encP f q) = true) : ∃ y ∈ D, y.1 = q.1 /\ y.2 ≠ q.2 := by
  unfold othK at h
  rw [List.any_eq_true] at h
  obtain ⟨z, hz, h2⟩ := h
  obtain ⟨y, hy, rfl⟩ := List.mem_map.1 hz
  simp only [Bool.and_eq_true, decide_eq_true_eq] at h2
  refine ⟨y, hy, h2.1, fun e => h2.2 ?_⟩
  obtain ⟨y1, y2⟩ := y
  obtain ⟨q1, q2⟩ := q
  have h3 : y1 = q1 := h2.1
  simp only at e
  rw [h3, e]
theorem othK_no {m : Pu.Md} {f : Pu.Fn} (mo : MdOk m) (fl : FnLow m f) (hp : (Fl.places f).length <= 8) {D : List (Nat × Fl.S)} (hD : ∀ x ∈ D, StWf m f x.2) {q : Nat × Fl.S} (hq : StWf m f q.2) (h : othK (D.map (encP f)) (encP f q) = false) : ∀ x ∈ D, x.1 = q.1 -> x = q := by
  intro x hx h1
  unfold othK at h
  rw [List.any_eq_false] at h
  have h2 := h (encP f x) (List.mem_map.2 ⟨x, hx, rfl⟩)
  simp only [Bool.and_eq_true, decide_eq_true_eq, not_and, ne_eq, Decidable.not_not] at h2
  exact enc_inj mo fl hp (hD x hx) hq (h2 h1)
end Go.Proofs.YtjamgmbdilkbcaaGreat
