import Derived.Test.YtjamgmbdilkbcaaLotGased09
/- Held.ints. -/
namespace Go.Proofs.Ytjamgmbdilkbcaa
open Go.RowKit

theorem Try.info74 : (Try.prog.info? 74).map (fun i => (i.zero, i.size, i.bytes)) = some (some (.agg #[.slice none 0 0, .int .i64 0]), 2, 32) := by kernel_rfl

theorem ne_ph {w : World} {B e size n ph : Nat} {t : TypeId} {v x0 x1 x2 x3 : Value} {xs : List Value} (h : w.ownsRow B e size v n xs) (hp : F4 w ph t x0 x1 x2 x3) (he : e ≠ t) : v.ownBlock ≠ some ph := by
  intro hv
  obtain ⟨c, hc⟩ := owns_ty h hv
  unfold F4 at hp
  rw [hp] at hc
  simp at hc
  exact he hc.2.symm

theorem HR.plain {w w' : World} {B ph : Nat} {N : Int} {vi vc vf : Value} {ei ec ef : List (Value × Int)} {r : Option Nat} (h : HR w B ph N vi vc vf ei ec ef) (hg : w.grownBy w' r) (hr : ∀ k, r = some k → Plain w k) : HR w' B ph N vi vc vf ei ec ef := by
  have no : ∀ {e : Nat} {v : Value} {n : Nat} {xs : List Value}, w.ownsRow B e 2 v n xs → (e ≠ 3 ∧ e ≠ 80 ∧ e ≠ 86) → v.ownBlock = none ∨ v.ownBlock ≠ r := by
    intro e v n xs ho he
    cases hv : v.ownBlock with
    | none => exact .inl rfl
    | some k =>
      refine .inr (fun hk => ?_)
      obtain ⟨c, t, fr, hc, ht⟩ := hr k hk.symm
      obtain ⟨c', hc'⟩ := owns_ty ho hv
      rw [hc] at hc'
      simp at hc'
      rcases ht with ht | ht | ht
      · exact he.1 (hc'.2.1.symm.trans ht)
      · exact he.2.1 (hc'.2.1.symm.trans ht)
      · exact he.2.2 (hc'.2.1.symm.trans ht)
  refine ⟨h.h.kept hg (fun e => ?_), h.oi.kept hg (no h.oi (by decide)), h.oc.kept hg (no h.oc (by decide)), h.of.kept hg (no h.of (by decide)), h.hB⟩
  obtain ⟨c, t, fr, hc, ht⟩ := hr ph e.symm
  have := h.h
  unfold F4 at this
  rw [this] at hc
  simp at hc
  rcases ht with ht | ht | ht <;> (rw [ht] at hc; exact absurd hc.2.1 (by decide))

theorem HR.setN {w : World} {B ph : Nat} {N : Int} {vi vc vf : Value} {ei ec ef : List (Value × Int)} (h : HR w B ph N vi vc vf ei ec ef) (N' : Int) : HR (w.setCell ⟨ph, 0, none⟩ (.int .i64 N')) B ph N' vi vc vf ei ec ef :=
  ⟨h.h.set0 _, owns_set h.oi (ne_ph h.oi h.h (by decide)) 0 _, owns_set h.oc (ne_ph h.oc h.h (by decide)) 0 _, owns_set h.of (ne_ph h.of h.h (by decide)) 0 _, h.hB⟩

theorem kp_grown {w w' : World} {S : Nat → Prop} {r : Option Nat} (hg : w.grownBy w' r) (hr : ∀ k, r = some k → S k → Plain w k → False) : Kp w w' S :=
  ⟨hg.size, fun k hk hs hp => hg.block k hk (fun e => hr k e.symm hs hp)⟩

theorem not_plain {w : World} {B e size n : Nat} {v : Value} {xs : List Value} (h : w.ownsRow B e size v n xs) (he : e ≠ 3 ∧ e ≠ 80 ∧ e ≠ 86) {k : Nat} (hk : v.ownBlock = some k) : ¬ Plain w k := by
  rintro ⟨c, t, fr, hc, ht⟩
  obtain ⟨c', hc'⟩ := owns_ty h hk
  rw [hc] at hc'
  simp at hc'
  rcases ht with ht | ht | ht
  · exact he.1 (hc'.2.1.symm.trans ht)
  · exact he.2.1 (hc'.2.1.symm.trans ht)
  · exact he.2.2 (hc'.2.1.symm.trans ht)

/-- the blocks that a call may turn: Held, the list, the rows of what is held. -/
def Xs (w : World) (B ph : Nat) (v : Value) (T : TypeId) (k : Nat) : Prop := B ≤ k ∧ (k = ph ∨ v.ownBlock = some k ∨ ∃ c fr, w.heap[k]? = some (.cells c T fr))

/-- the blocks that are held behind it. -/
def S1 (w : World) (S : Nat → Prop) (v : Value) (k : Nat) : Prop := (S k ∧ k < w.heap.size) ∨ v.ownBlock = some k ∨ w.heap.size ≤ k

theorem loc {a b : Option Nat} {m m' : Nat} (h : a = b ∨ a = some m) (hm : m' ≤ m) : ∀ j, a = some j → b = some j ∨ m' ≤ j := by
  intro j hj
  rcases h with h | h
  · exact .inl (h.symm.trans hj)
  · rw [h] at hj
    simp only [Option.some.injEq] at hj
    subst hj
    exact .inr hm

/-- in the second loop. -/
structure LI (w wr : World) (B ph : Nat) (S0 X P1 : Nat → Prop) (N n : Int) (n0 k : Nat) (v vi0 gv vi vc vf : Value) (ei en ec ef : List (Value × Int)) : Prop where
  r : HR wr B ph N vi vc vf (ei ++ en) ec ef
  g : HG wr S0 ei ec ef
  og : wr.ownsRow B 3 1 gv (n0 + k) (ints (n0 + k) n)
  ov : wr.ownsRow B 3 1 v n0 (ints n0 n)
  en : ∀ x ∈ en, x.2 = n ∧ ∃ lx, lx ≤ n0 + k ∧ wr.ownsRow B 3 1 x.1 lx (ints lx n) ∧ ∀ j, x.1.ownBlock = some j → P1 j
  pg : ∀ j, gv.ownBlock = some j → P1 j
  pi : ∀ j, vi.ownBlock = some j → vi0.ownBlock = some j ∨ w.heap.size ≤ j
  fr : Fr w wr X

section
variable {w wr w3 : World} {B ph : Nat} {S0 X P1 : Nat → Prop} {N n : Int} {n0 k : Nat} {v vi0 gv vi vc vf vi' gv' : Value} {ei en ec ef : List (Value × Int)}

theorem LI.alloc (h : LI w wr B ph S0 X P1 N n n0 k v vi0 gv vi vc vf ei en ec ef) (o : Obj) : LI w (wr.alloc o) B ph S0 X P1 N n n0 k v vi0 gv vi vc vf ei en ec ef :=
  ⟨h.r.plain (World.grownBy_alloc wr o none) (by intro k hk; cases hk), h.g.kept (kp_grown (World.grownBy_alloc wr o none) (by intro k hk; cases hk)), h.og.alloc o, h.ov.alloc o,
    fun x hx => ⟨(h.en x hx).1, by obtain ⟨lx, h1, h2, h3⟩ := (h.en x hx).2; exact ⟨lx, h1, h2.alloc o, h3⟩⟩, h.pg, h.pi, h.fr.grown (World.grownBy_alloc wr o none) (by intro k hk; cases hk)⟩

/-- behind 'h.Ints = append(h.Ints, ..)'. -/
theorem LI.push (h : LI w wr B ph S0 X P1 N n n0 k v vi0 gv vi vc vf ei en ec ef) (hX : ∀ j, vi0.ownBlock = some j → X j) (hXp : X ph)
    {M : Nat} (hM : M = (ei ++ en).length) (ho : w3.ownsRow B 74 2 vi' (M + 1) (hc (ei ++ en) ++ [gv, .int .i64 n])) (hg : wr.grownBy w3 vi.ownBlock) (hl : ∀ j, vi'.ownBlock = some j → vi.ownBlock = some j ∨ wr.heap.size ≤ j) :
    LI w (w3.setCell ⟨ph, 1, none⟩ vi') B ph S0 X P1 N n n0 k v vi0 gv vi' vc vf ei (en ++ [(gv, n)]) ec ef := by
  have hp3 : F4 w3 ph 27 (.int .i64 N) vi vc vf := h.r.h.kept hg (fun e => ne_ph h.r.oi h.r.h (by decide) e.symm)
  have nb : ∀ {e : Nat} {u : Value} {m size : Nat} {xs : List Value}, wr.ownsRow B e size u m xs → e ≠ 74 → e ≠ 27 → (w3.setCell ⟨ph, 1, none⟩ vi').ownsRow B e size u m xs := by
    intro e u m size xs hu he he2
    have h3 := owns_other hu h.r.oi hg he
    exact owns_set h3 (ne_ph h3 hp3 he2) 1 vi'
  have kp3 : Kp wr w3 S0 := kp_grown hg (fun j hj _ hp => not_plain h.r.oi (by decide) hj hp)
  have kp4 : Kp w3 (w3.setCell ⟨ph, 1, none⟩ vi') S0 := kp_grown (grown_set w3 ph 1 vi') (fun j hj _ hp => by
    simp only [Option.some.injEq] at hj
    subst hj
    obtain ⟨c, t, fr, hc, ht⟩ := hp
    unfold F4 at hp3
    rw [hp3] at hc
    simp at hc
    rcases ht with ht | ht | ht <;> (rw [ht] at hc; exact absurd hc.2.1 (by decide)))
  refine ⟨⟨hp3.set1 vi', ?_, nb h.r.oc (by decide) (by decide), nb h.r.of (by decide) (by decide), h.r.hB⟩, (h.g.kept kp3).kept kp4, nb h.og (by decide) (by decide), nb h.ov (by decide) (by decide), ?_, h.pg, ?_, ?_⟩
  · have e1 : (ei ++ (en ++ [(gv, n)])).length = (ei ++ en).length + 1 := by simp; omega
    have e2 : hc (ei ++ (en ++ [(gv, n)])) = hc (ei ++ en) ++ [gv, .int .i64 n] := by rw [← List.append_assoc, hc_snoc]
    rw [e1, e2, ← hM]
    exact owns_set ho (ne_ph ho hp3 (by decide)) 1 vi'
  · intro x hx
    rcases List.mem_append.1 hx with hx | hx
    · obtain ⟨h1, lx, h2, h3, h4⟩ := h.en x hx
      exact ⟨h1, lx, h2, nb h3 (by decide) (by decide), h4⟩
    · simp only [List.mem_singleton] at hx
      subst hx
      exact ⟨rfl, n0 + k, Nat.le_refl _, nb h.og (by decide) (by decide), h.pg⟩
  · intro j hj
    rcases hl j hj with h' | h'
    · exact h.pi j h'
    · exact .inr (Nat.le_trans h.fr.size h')
  · refine (h.fr.grown hg ?_).grown (grown_set w3 ph 1 vi') ?_
    · intro j hj
      rcases h.pi j hj with h' | h'
      · exact .inl (hX j h')
      · exact .inr h'
    · intro j hj
      simp only [Option.some.injEq] at hj
      subst hj
      exact .inl hXp

/-- behind 'g = append(g, n)'. -/
theorem LI.grow (h : LI w wr B ph S0 X P1 N n n0 k v vi0 gv vi vc vf ei en ec ef) (hPS : ∀ j, P1 j → ¬ S0 j) (hPX : ∀ j, P1 j → X j ∨ w.heap.size ≤ j) (hP2 : ∀ j, w.heap.size ≤ j → P1 j)
    (ho : w3.ownsRow B 3 1 gv' (n0 + k + 1) (ints (n0 + k) n ++ [.int .i64 n])) (hg : wr.grownBy w3 gv.ownBlock) (hkp : w3.ownsRow B 3 1 gv (n0 + k) (ints (n0 + k) n)) (hl : ∀ j, gv'.ownBlock = some j → gv.ownBlock = some j ∨ wr.heap.size ≤ j) :
    LI w w3 B ph S0 X P1 N n n0 (k + 1) v vi0 gv' vi vc vf ei en ec ef := by
  refine ⟨h.r.plain hg (fun j hj => owns_plain h.og hj (.inl rfl)), h.g.kept (kp_grown hg (fun j hj hs _ => hPS j (h.pg j hj) hs)), ?_, ?_, ?_, ?_, h.pi, h.fr.grown hg (fun j hj => hPX j (h.pg j hj))⟩
  · rw [show n0 + (k + 1) = n0 + k + 1 from by omega, ints_succ]; exact ho
  · exact front_kept (f := fun a => ints a n) (ints_front n) h.ov h.og (by decide) (by omega) hg hkp
  · intro x hx
    obtain ⟨h1, lx, h2, h3, h4⟩ := h.en x hx
    exact ⟨h1, lx, by omega, front_kept (f := fun a => ints a n) (ints_front n) h3 h.og (by decide) (by omega) hg hkp, h4⟩
  · intro j hj
    rcases hl j hj with h' | h'
    · exact h.pg j h'
    · exact hP2 _ (Nat.le_trans h.fr.size h')
end

/-- what comes of holding a list. -/
def HOut (w w' : World) (B ph : Nat) (S : Nat → Prop) (K : Nat) (v : Value) (T : TypeId) (good : World → (Nat → Prop) → Value → Int → Prop) (e : Ending) : Prop :=
  ∃ n : Int, e = .returned (.int .i64 n) ∧ Hd w' B ph (S1 w S v) (K + 4) ∧ good w' (S1 w S v) v n ∧ Fr w w' (Xs w B ph v T)

theorem owns_zero {w : World} {B e size n : Nat} {v : Value} {xs : List Value} (h : w.ownsRow B e size v n xs) : w.ownsRow 0 e size v n xs := owns_base h (Nat.zero_le _)

theorem set_mark (xs : List Value) (k : Nat) (h : k < xs.length) (n : Int) : (ints k n ++ xs.drop k).set k (.int .i64 n) = ints (k + 1) n ++ xs.drop (k + 1) := by
  have hl : (ints k n).length = k := by simp [ints]
  rw [List.drop_eq_getElem_cons h, ints_succ, List.append_assoc, List.set_append, if_neg (by omega), hl, Nat.sub_self]
  rfl

set_option maxRecDepth 100000 in
set_option maxHeartbeats 2000000 in
theorem hints_any (B ph K n0 : Nat) (S : Nat → Prop) (v : Value) (xs : List Value) (w : World) (hd : Hd w B ph S K) (ho : w.ownsRow B 3 1 v n0 xs) (hn0 : n0 ≤ 1500000) (hS : ∀ k, v.ownBlock = some k → ¬ S k) (hK : K ≤ 1000000000) :
    Calls Try.prog 67 #[.pointer (some ⟨ph, 0, none⟩), v] w fun e w' => HOut w w' B ph S K v 74 GoodI e := by
  obtain ⟨i0, hi0, hz0, hz1, hz2⟩ := info_parts Try.info3
  obtain ⟨j0, hj0, hy0, hy1, hy2⟩ := info_parts Try.info74
  obtain ⟨N, vi, vc, vf, ei, ec, ef, r, g, ki, kc, kf⟩ := hd
  obtain ⟨ao, cap, rfl⟩ := owns_shape ho
  have hB := r.hB
  have hpl := r.h.lt
  go_enter Try.func67, Try.ntmps67
  go_wp2_with fail
  refine (mark_any ph N vi vc vf w r.h).mono ?_
  rintro e w1 ⟨n, N', rfl, hw1⟩
  have hgs : w.grownBy w1 (some ph) := by rw [hw1]; exact grown_set w ph 0 _
  have r1 : HR w1 B ph N' vi vc vf ei ec ef := by rw [hw1]; exact r.setN N'
  have o1 : w1.ownsRow B 3 1 (.slice ao n0 cap) n0 xs := by rw [hw1]; exact owns_set ho (ne_ph ho r.h (by decide)) 0 _
  have f1 : Fr w w1 (Xs w B ph (.slice ao n0 cap) 74) := (Fr.refl _ _).grown hgs (fun k hk => by simp only [Option.some.injEq] at hk; subst hk; exact .inl ⟨hB, .inl rfl⟩)
  have g1 : HG w1 (fun k => S k ∧ k < w.heap.size) ei ec ef := (g.more (S' := fun k => S k ∧ k < w.heap.size) (fun k hk hs => ⟨hs, hk⟩)).kept (kp_grown hgs (fun j hj _ hp => by
    simp only [Option.some.injEq] at hj
    subst hj
    obtain ⟨c, t, fr, hc, ht⟩ := hp
    have := r.h
    unfold F4 at this
    rw [this] at hc
    simp at hc
    rcases ht with ht | ht | ht <;> (rw [ht] at hc; exact absurd hc.2.1 (by decide))))
  have HXi : Hid (∀ j, vi.ownBlock = some j → Xs w B ph (.slice ao n0 cap) 74 j) := fun j hj => by
    obtain ⟨c, hc⟩ := owns_ty r.oi hj
    exact ⟨(r.oi.lt j hj).1, .inr (.inr ⟨c, _, hc⟩)⟩
  have HXv : Hid (∀ j, (Value.slice ao n0 cap).ownBlock = some j → Xs w B ph (.slice ao n0 cap) 74 j) := fun j hj => ⟨(ho.lt j hj).1, .inr (.inl hj)⟩
  have HXp : Hid (Xs w B ph (.slice ao n0 cap) 74 ph) := ⟨hB, .inl rfl⟩
  have HS : Hid _ := hS
  have hlx : xs.length = n0 := by simpa using ho.1
  clear hw1 hgs r g ho hS
  go_wp2
  go_loopw [6] (fun i wr => ∃ k : Nat, k ≤ n0 ∧ i = .int .i64 k ∧ wr.ownsRow B 3 1 (.slice ao n0 cap) n0 (ints k n ++ xs.drop k) ∧ HR wr B ph N' vi vc vf ei ec ef ∧ HG wr (fun k => S k ∧ k < w.heap.size) ei ec ef ∧ Fr w wr (Xs w B ph (.slice ao n0 cap) 74)) (fun i _ => n0 - (intOf i).toNat)
  case atStart => exact ⟨0, Nat.zero_le _, rfl, by simpa [ints] using o1, r1, g1, f1⟩
  case round =>
    obtain ⟨k, hk, rfl, ho, hr, hg, hf⟩ := hrel
    clear o1 r1 g1 f1
    by_cases hlt : k < n0
    · obtain ⟨g0, rfl⟩ : ∃ g0, ao = some ⟨g0, 0, none⟩ := by
        rcases ho.2 with ⟨_, h0⟩ | ⟨g0, cap', cur, h0, _⟩
        · omega
        · simp only [Value.slice.injEq] at h0
          exact ⟨g0, h0.1⟩
      have hc := ho.cellAt k (by omega)
      have hfz := ho.frozenAt k
      have hst := ho.stored k (.int .i64 n)
      have hcx : ∃ u, wr.cell? ⟨g0, k, none⟩ = some u := by
        rw [hc]
        have : k < (ints k n ++ xs.drop k).length := by simp [ints]; omega
        exact ⟨_, List.getElem?_eq_getElem this⟩
      obtain ⟨u, hu⟩ := hcx
      have o2 : (wr.setCell ⟨g0, k, none⟩ (.int .i64 n)).ownsRow B 3 1 (.slice (some ⟨g0, 0, none⟩) n0 cap) n0 (ints (k + 1) n ++ xs.drop (k + 1)) := by
        have h1 := hst.1
        have h2 := set_mark xs k (by omega) n
        rwa [h2] at h1
      have r2 := hr.plain hst.2 (fun j hj => by simp only [Option.some.injEq] at hj; subst hj; exact owns_plain ho rfl (.inl rfl))
      have g2 := hg.kept (kp_grown hst.2 (fun j hj hs _ => by simp only [Option.some.injEq] at hj; subst hj; exact HS.out g0 rfl hs.1))
      have f2 := hf.grown hst.2 (fun j hj => by simp only [Option.some.injEq] at hj; subst hj; exact .inl (HXv.out g0 rfl))
      clear hc hst ho hr hg hf
      go_wp2
      go_roundw
      case rel => exact ⟨k + 1, hlt, by go_num, o2, r2, g2, f2⟩
      case measure => simp [intOf]; omega
    · have hkn : k = n0 := by omega
      subst hkn
      have hog : wr.ownsRow B 3 1 (.slice ao k cap) k (ints k n) := by
        have := ho
        rw [List.drop_of_length_le (by omega), List.append_nil] at this
        exact this
      have L0 : LI w wr B ph (fun j => S j ∧ j < w.heap.size) (Xs w B ph (.slice ao k cap) 74) (fun j => (Value.slice ao k cap).ownBlock = some j ∨ w.heap.size ≤ j) N' n k 0 (.slice ao k cap) vi (.slice ao k cap) vi vc vf ei [] ec ef :=
        ⟨by simpa using hr, hg, hog, hog, by simp, fun j hj => .inl hj, fun j hj => .inl hj, hf⟩
      clear ho hr hg hf hog
      have HPS : Hid (∀ j, ((Value.slice ao k cap).ownBlock = some j ∨ w.heap.size ≤ j) → ¬ (S j ∧ j < w.heap.size)) := fun j hj hs => by
        rcases hj with hj | hj
        · exact HS.out j hj hs.1
        · omega
      have HPX : Hid (∀ j, ((Value.slice ao k cap).ownBlock = some j ∨ w.heap.size ≤ j) → Xs w B ph (.slice ao k cap) 74 j ∨ w.heap.size ≤ j) := fun j hj => by
        rcases hj with hj | hj
        · exact .inl (HXv.out j hj)
        · exact .inr hj
      go_wp2
      go_loopw [7, 8] (fun gv i wr => ∃ (q : Nat) (vi' : Value) (en : List (Value × Int)), q ≤ 3 ∧ i = .int .i64 q ∧ en.length = q ∧
          LI w wr B ph (fun j => S j ∧ j < w.heap.size) (Xs w B ph (.slice ao k cap) 74) (fun j => (Value.slice ao k cap).ownBlock = some j ∨ w.heap.size ≤ j) N' n k q (.slice ao k cap) vi gv vi' vc vf ei en ec ef) (fun _ i _ => 3 - (intOf i).toNat)
      case atStart => exact ⟨0, vi, [], by omega, rfl, rfl, L0⟩
      case round =>
        obtain ⟨q, vi', en, hq, rfl, hen, L⟩ := hrel
        clear L0
        obtain ⟨ao7, cap7, rfl⟩ := owns_shape L.og
        obtain ⟨aoi, capi, hvi⟩ := owns_shape L.r.oi
        obtain ⟨M, hM⟩ : ∃ M, M = (ei ++ en).length := ⟨_, rfl⟩
        rw [← hM] at hvi
        subst hvi
        have hM2 : M ≤ 1000000003 := by rw [hM]; simp; omega
        have HM : Hid _ := hM
        have HEN : Hid _ := hen
        clear hM hen
        have c1 := L.r.h.c1
        have hz := L.r.h.lt
        have LA := L.alloc (.cells #[.slice ao7 (k + q) cap7, .int .i64 n] 74)
        have oiA := LA.r.oi
        rw [← HM.out] at oiA
        clear L
        by_cases hlt : q < 3
        · go_wp2_with (at_builtin; refine wpList_append_keep rfl _ _ 23 rfl B 74 j0 (.agg #[.slice none 0 0, .int .i64 0]) 2 32 Try.underlying23 hj0 hy0 hy1 hy2 rfl (by decide) _ _ _ rfl oiA ⟨wr.heap.size, 0, none⟩ 1 1 [.slice ao7 (k + q) cap7, .int .i64 n] rfl rfl (cell_two _ _ _ _) ?d2 ?d3 ?d4 ?d5 (by decide) ?_)
          case d2 => intro u hu; simp at hu; rcases hu with rfl | rfl <;> rfl
          case d3 => unfold maxLen; omega
          case d4 => omega
          case d5 => simp only [World.size_alloc]; omega
          intro vi2 w3 hv3 hg3 _ hl3
          obtain ⟨ao2, cap2, rfl⟩ := owns_shape hv3
          have L4 := LA.push HXi.out HXp.out HM.out hv3 hg3 (loc hl3 (by simp only [World.size_alloc]; omega))
          have p3 := LA.r.h.kept hg3 (fun e => ne_ph LA.r.oi LA.r.h (by decide) e.symm)
          have e1 := p3.c1
          have e2 := p3.fz 1
          clear LA hv3 hg3 hl3 p3 c1 oiA
          have LB := L4.alloc (.cells #[.int .i64 n] 3)
          have hz4 := L4.r.h.lt
          clear L4
          go_wp2_with (at_builtin; refine wpList_append_keep rfl _ _ 30 rfl B 3 i0 (.int .i64 0) 1 8 Try.underlying30 hi0 hz0 hz1 hz2 rfl (by decide) _ _ _ rfl LB.og ⟨(w3.setCell ⟨ph, 1, none⟩ (.slice ao2 (M + 1) cap2)).heap.size, 0, none⟩ 1 1 [.int .i64 n] ?t1 rfl (cell_one_new _ _ _) ?t2 ?t3 ?t4 ?t5 (by decide) ?_)
          case t1 => simp [World.setCell]; rfl
          case t2 => intro u hu; simp at hu; subst hu; rfl
          case t3 => unfold maxLen; omega
          case t4 => omega
          case t5 => simp only [World.size_alloc]; omega
          intro gv2 w5 hv5 hg5 hkp5 hl5
          have L6 := LB.grow HPS.out HPX.out (fun j hj => .inr hj) hv5 hg5 hkp5 (loc hl5 (by simp [World.setCell]))
          clear LB hv5 hg5 hkp5 hl5 e1 e2
          go_wp2
          go_roundw
          case rel => exact ⟨q + 1, _, en ++ [(_, n)], hlt, by go_num, by simp [HEN.out], L6⟩
          case measure => simp [intOf]; omega
        · have hq3 : q = 3 := by omega
          subst hq3
          go_wp2_with (at_builtin; refine wpList_append_keep rfl _ _ 23 rfl B 74 j0 (.agg #[.slice none 0 0, .int .i64 0]) 2 32 Try.underlying23 hj0 hy0 hy1 hy2 rfl (by decide) _ _ _ rfl oiA ⟨wr.heap.size, 0, none⟩ 1 1 [.slice ao7 (k + 3) cap7, .int .i64 n] rfl rfl (cell_two _ _ _ _) ?x2 ?x3 ?x4 ?x5 (by decide) ?_)
          case x2 => intro u hu; simp at hu; rcases hu with rfl | rfl <;> rfl
          case x3 => unfold maxLen; omega
          case x4 => omega
          case x5 => simp only [World.size_alloc]; omega
          intro vi2 w3 hv3 hg3 _ hl3
          obtain ⟨ao2, cap2, rfl⟩ := owns_shape hv3
          have L4 := LA.push HXi.out HXp.out HM.out hv3 hg3 (loc hl3 (by simp only [World.size_alloc]; omega))
          have p3 := LA.r.h.kept hg3 (fun e => ne_ph LA.r.oi LA.r.h (by decide) e.symm)
          have e1 := p3.c1
          have e2 := p3.fz 1
          clear LA hv3 hg3 hl3 p3 c1 oiA
          have fin : HOut w (w3.setCell ⟨ph, 1, none⟩ (.slice ao2 (M + 1) cap2)) B ph S K (.slice ao k cap) 74 GoodI (.returned (.int .i64 n)) := by
            have up : ∀ j, (Value.slice ao k cap).ownBlock = some j ∨ w.heap.size ≤ j → S1 w S (.slice ao k cap) j := fun j hj => .inr hj
            have gn := L4.g.more (S' := S1 w S (.slice ao k cap)) (fun j _ hj => .inl hj)
            refine ⟨n, rfl, ⟨N', _, vc, vf, ei ++ (en ++ [(_, n)]), ec, ef, L4.r, ⟨?_, gn.gc, gn.gf⟩, by simp [HEN.out]; omega, by omega, by omega⟩, ⟨k, owns_zero L4.ov, by omega, fun j hj => up j (.inl hj)⟩, L4.fr⟩
            intro x hx
            rcases List.mem_append.1 hx with hx | hx
            · exact gn.gi x hx
            · obtain ⟨h1, lx, h2, h3, h4⟩ := L4.en x hx
              rw [h1]
              exact ⟨lx, owns_zero h3, by omega, fun j hj => up j (h4 j hj)⟩
          have FIN : Hid _ := fin
          clear fin L4
          go_wp2
          go_ret
          exact FIN.out
end Go.Proofs.Ytjamgmbdilkbcaa
