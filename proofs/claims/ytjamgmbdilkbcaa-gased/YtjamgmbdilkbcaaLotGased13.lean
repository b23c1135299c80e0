import Derived.Test.YtjamgmbdilkbcaaLotGased12
/- Held.module. -/
namespace Go.Proofs.Ytjamgmbdilkbcaa
open Go.RowKit

/-- a list in memory. -/
structure Row where
  e : Nat
  size : Nat
  n : Nat
  v : Value
  ys : List Value

/-- lists in memory, of which none is held. -/
structure RO (w : World) (B : Nat) (S : Nat → Prop) (R : List Row) : Prop where
  own : ∀ r ∈ R, w.ownsRow B r.e r.size r.v r.n r.ys
  ty : ∀ r ∈ R, r.e = 3 ∨ r.e = 80 ∨ r.e = 86
  free : ∀ r ∈ R, ∀ j, r.v.ownBlock = some j → ¬ S j
  nd : (R.flatMap fun r => r.v.ownBlock.toList).Nodup

theorem block_fr {w w' : World} {B ph k : Nat} {u : Value} {T t : TypeId} {c : Array Value} {fr : Nat × Nat} (hf : Fr w w' (Xs w B ph u T)) (hb : w.heap[k]? = some (.cells c t fr)) (h1 : k ≠ ph) (h2 : u.ownBlock ≠ some k) (h3 : t ≠ T) : w'.heap[k]? = some (.cells c t fr) := by
  rw [hf.block k (Array.getElem?_eq_some_iff.1 hb).1 ?_]
  · exact hb
  · rintro ⟨_, h | h | ⟨c', fr', h⟩⟩
    · exact h1 h
    · exact h2 h
    · rw [hb] at h
      simp at h
      exact h3 h.2.1

theorem RO.step {w w' : World} {B ph : Nat} {S : Nat → Prop} {r0 : Row} {R : List Row} {T : TypeId} {x0 x1 x2 x3 : Value} (h : RO w B S (r0 :: R)) (hp : F4 w ph 27 x0 x1 x2 x3) (hf : Fr w w' (Xs w B ph r0.v T)) (hT : T ≠ 3 ∧ T ≠ 80 ∧ T ≠ 86) : RO w' B (S1 w S r0.v) R := by
  have hnd := h.nd
  simp only [List.flatMap_cons, List.nodup_append] at hnd
  obtain ⟨_, hnd2, hdis⟩ := hnd
  have ne : ∀ r ∈ R, ∀ j, r.v.ownBlock = some j → r0.v.ownBlock ≠ some j := fun r hr j hj h0 =>
    hdis j (by rw [h0]; simp) j (List.mem_flatMap.2 ⟨r, hr, by rw [hj]; simp⟩) rfl
  refine ⟨fun r hr => ?_, fun r hr => h.ty r (List.mem_cons_of_mem _ hr), fun r hr j hj => ?_, hnd2⟩
  · have ho := h.own r (List.mem_cons_of_mem _ hr)
    refine owns_block ho (fun k hk => ?_)
    obtain ⟨c, hc⟩ := owns_ty ho hk
    rw [hc]
    refine block_fr hf hc ?_ (ne r hr k hk) ?_
    · intro e
      subst e
      have := h.ty r (List.mem_cons_of_mem _ hr)
      exact ne_ph ho hp (by rcases this with h | h | h <;> (rw [h]; decide)) hk
    · rcases h.ty r (List.mem_cons_of_mem _ hr) with h | h | h
      · rw [h]; exact hT.1.symm
      · rw [h]; exact hT.2.1.symm
      · rw [h]; exact hT.2.2.symm
  · rintro (⟨h1, _⟩ | h1 | h1)
    · exact h.free r (List.mem_cons_of_mem _ hr) j hj h1
    · exact ne r hr j hj h1
    · have := owns_lt (h.own r (List.mem_cons_of_mem _ hr)) hj
      omega

theorem RO.below {w w' : World} {B : Nat} {S : Nat → Prop} {R : List Row} (h : RO w B S R) (hb : Below w.heap.size w w') : RO w' B S R :=
  ⟨fun r hr => owns_block (h.own r hr) (fun k hk => hb.block k (owns_lt (h.own r hr) hk)), h.ty, h.free, h.nd⟩

def rowsOf (f : Pu.Fn) (x : FV) : List Row :=
  [⟨3, 1, f.params.length, x.p, f.params.map (Value.int .i64)⟩, ⟨3, 1, f.results.length, x.r, f.results.map (Value.int .i64)⟩, ⟨3, 1, f.locals.length, x.l, f.locals.map (Value.int .i64)⟩, ⟨80, 2, f.code.length, x.c, cc f.code⟩]

def rows : List Pu.Fn → List FV → List Row
  | f :: fs, x :: xs => rowsOf f x ++ rows fs xs
  | _, _ => []

theorem rows_bl : ∀ (fs : List Pu.Fn) (xs : List FV), fs.length = xs.length → (rows fs xs).flatMap (fun r => r.v.ownBlock.toList) = bl (fc xs)
  | [], [], _ => rfl
  | f :: fs, x :: xs, h => by
    have ih := rows_bl fs xs (by simpa using h)
    rw [rows, List.flatMap_append, ih, fc_cons, bl_append]
    simp [rowsOf, FV.cells, bl]
  | [], _ :: _, h => by simp at h
  | _ :: _, [], h => by simp at h

theorem rows_own {w : World} {B : Nat} : ∀ {fs : List Pu.Fn} {xs : List FV}, FnsAt w B fs xs → ∀ r ∈ rows fs xs, w.ownsRow B r.e r.size r.v r.n r.ys ∧ (r.e = 3 ∨ r.e = 80)
  | [], [], _ => by simp [rows]
  | f :: fs, x :: xs, h => by
    intro r hr
    rw [rows, List.mem_append] at hr
    rcases hr with hr | hr
    · simp only [rowsOf, List.mem_cons, List.not_mem_nil, or_false] at hr
      rcases hr with rfl | rfl | rfl | rfl
      · exact ⟨h.1.p, .inl rfl⟩
      · exact ⟨h.1.r, .inl rfl⟩
      · exact ⟨h.1.l, .inl rfl⟩
      · exact ⟨h.1.c, .inr rfl⟩
    · exact rows_own h.2 r hr
  | [], _ :: _, h => h.elim
  | _ :: _, [], h => h.elim

theorem rows_drop : ∀ (fs : List Pu.Fn) (xs : List FV) (k : Nat), k < fs.length → fs.length = xs.length → ∃ f x, f ∈ fs ∧ rows (fs.drop k) (xs.drop k) = rowsOf f x ++ rows (fs.drop (k + 1)) (xs.drop (k + 1)) ∧ (fc xs)[k * 4]? = some x.p ∧ (fc xs)[k * 4 + 1]? = some x.r ∧ (fc xs)[k * 4 + 2]? = some x.l ∧ (fc xs)[k * 4 + 3]? = some x.c
  | f :: fs, x :: xs, 0, _, _ => ⟨f, x, by simp, by simp [rows], by simp [fc_cons, FV.cells], by simp [fc_cons, FV.cells], by simp [fc_cons, FV.cells], by simp [fc_cons, FV.cells]⟩
  | f :: fs, x :: xs, k + 1, h, h' => by
    obtain ⟨g, y, hg, h1, h2, h3, h4, h5⟩ := rows_drop fs xs k (by simpa using h) (by simpa using h')
    refine ⟨g, y, by simp [hg], by simpa using h1, ?_, ?_, ?_, ?_⟩
    · rw [fc_cons, show (k + 1) * 4 = k * 4 + 1 + 1 + 1 + 1 from by omega]; simpa [FV.cells] using h2
    · rw [fc_cons, show (k + 1) * 4 + 1 = k * 4 + 1 + 1 + 1 + 1 + 1 from by omega]; simpa [FV.cells] using h3
    · rw [fc_cons, show (k + 1) * 4 + 2 = k * 4 + 2 + 1 + 1 + 1 + 1 from by omega]; simpa [FV.cells] using h4
    · rw [fc_cons, show (k + 1) * 4 + 3 = k * 4 + 3 + 1 + 1 + 1 + 1 from by omega]; simpa [FV.cells] using h5
  | [], _, _, h, _ => by simp at h
  | _ :: _, [], _, _, h => by simp at h

/-- a module, all of whose lists are small. -/
def Small (m : Pu.Md) : Prop := m.kinds.length ≤ 1500000 ∧ m.funcs.length ≤ 1500000 ∧ ∀ f ∈ m.funcs, f.params.length ≤ 1500000 ∧ f.results.length ≤ 1500000 ∧ f.locals.length ≤ 1500000 ∧ f.code.length ≤ 1500000

theorem F4.fr {w w' : World} {B ph q : Nat} {t T : TypeId} {x0 x1 x2 x3 u : Value} (h : F4 w q t x0 x1 x2 x3) (hf : Fr w w' (Xs w B ph u T)) (h1 : q ≠ ph) (h2 : u.ownBlock ≠ some q) (h3 : t ≠ T) : F4 w' q t x0 x1 x2 x3 := block_fr hf h h1 h2 h3
theorem F2.fr {w w' : World} {B ph q : Nat} {t T : TypeId} {x0 x1 u : Value} (h : F2 w q t x0 x1) (hf : Fr w w' (Xs w B ph u T)) (h1 : q ≠ ph) (h2 : u.ownBlock ≠ some q) (h3 : t ≠ T) : F2 w' q t x0 x1 := block_fr hf h h1 h2 h3

theorem ne_f2 {w : World} {B e size n q : Nat} {t : TypeId} {v x0 x1 : Value} {xs : List Value} (h : w.ownsRow B e size v n xs) (hp : F2 w q t x0 x1) (he : e ≠ t) : v.ownBlock ≠ some q := by
  intro hv
  obtain ⟨c, hc⟩ := owns_ty h hv
  unfold F2 at hp
  rw [hp] at hc
  simp at hc
  exact he hc.2.symm

theorem xs_ge {w : World} {B ph k : Nat} {v : Value} {T : TypeId} (h : Xs w B ph v T k) : B ≤ k := h.1

theorem Hd.held {w : World} {B ph : Nat} {S : Nat → Prop} {K : Nat} (h : Hd w B ph S K) : ∃ x0 x1 x2 x3, F4 w ph 27 x0 x1 x2 x3 := by
  obtain ⟨N, vi, vc, vf, ei, ec, ef, r, _⟩ := h
  exact ⟨_, _, _, _, r.h⟩
theorem Hd.lt {w : World} {B ph : Nat} {S : Nat → Prop} {K : Nat} (h : Hd w B ph S K) : B ≤ ph ∧ ph < w.heap.size := by
  obtain ⟨N, vi, vc, vf, ei, ec, ef, r, _⟩ := h
  exact ⟨r.hB, r.h.lt⟩

set_option maxRecDepth 100000 in
set_option maxHeartbeats 2000000 in
theorem hmodule_any (B ph K : Nat) (S : Nat → Prop) (m : Pu.Md) (kv vv : Value) (xs : List FV) (w : World) (hd : Hd w B ph S K) (hm : MdAt w B m kv vv xs) (hsm : Small m)
    (hS : ∀ j ∈ bl (kv :: vv :: fc xs), ¬ S j) (hK : K + 16 * m.funcs.length + 8 ≤ 1000000000) :
    Calls Try.prog 35 #[.pointer (some ⟨ph, 0, none⟩), .agg #[kv, vv]] w fun e w' => e = .returned (.tuple #[]) ∧ (∃ S', Hd w' B ph S' (K + 16 * m.funcs.length + 8)) ∧ Below B w w' := by
  have hfl := hm.hf.len
  have R0 : RO w B S (⟨3, 1, m.kinds.length, kv, m.kinds.map (Value.int .i64)⟩ :: (rows m.funcs xs ++ [⟨86, 4, m.funcs.length, vv, fc xs⟩])) := by
    have hown : ∀ r ∈ rows m.funcs xs, w.ownsRow B r.e r.size r.v r.n r.ys ∧ (r.e = 3 ∨ r.e = 80) := rows_own hm.hf
    have hfm : (rows m.funcs xs).flatMap (fun r => r.v.ownBlock.toList) = bl (fc xs) := rows_bl _ _ hfl
    have hvm : ∀ j, vv.ownBlock = some j → j ∉ bl (kv :: fc xs) := by
      intro j hj hmem
      obtain ⟨c, hc⟩ := owns_ty hm.hv hj
      rw [bl_cons, List.mem_append] at hmem
      rcases hmem with hmem | hmem
      · obtain ⟨c', hc'⟩ := owns_ty hm.hk (by simpa using hmem)
        rw [hc] at hc'
        simp at hc'
      · rw [← hfm] at hmem
        obtain ⟨r, hr, hrj⟩ := List.mem_flatMap.1 hmem
        obtain ⟨ho, ht⟩ := hown r hr
        obtain ⟨c', hc'⟩ := owns_ty ho (by simpa using hrj)
        rw [hc] at hc'
        simp at hc'
        rcases ht with ht | ht <;> (rw [ht] at hc'; exact absurd hc'.2 (by decide))
    refine ⟨?_, ?_, ?_, ?_⟩
    · intro r hr
      simp only [List.mem_cons, List.mem_append, List.not_mem_nil, or_false] at hr
      rcases hr with rfl | hr | rfl
      · exact hm.hk
      · exact (hown r hr).1
      · exact hm.hv
    · intro r hr
      simp only [List.mem_cons, List.mem_append, List.not_mem_nil, or_false] at hr
      rcases hr with rfl | hr | rfl
      · exact .inl rfl
      · rcases (hown r hr).2 with h | h
        · exact .inl h
        · exact .inr (.inl h)
      · exact .inr (.inr rfl)
    · intro r hr j hj
      refine hS j ?_
      simp only [List.mem_cons, List.mem_append, List.not_mem_nil, or_false] at hr
      rw [bl_cons, bl_cons, List.mem_append, List.mem_append]
      rcases hr with rfl | hr | rfl
      · exact .inl (by simpa using hj)
      · exact .inr (.inr (by rw [← hfm]; exact List.mem_flatMap.2 ⟨r, hr, by rw [hj]; simp⟩))
      · exact .inr (.inl (by simpa using hj))
    · rw [List.flatMap_cons, List.flatMap_append, hfm]
      have hnd := hm.nd
      rw [bl_cons] at hnd
      rw [← List.append_assoc]
      refine List.nodup_append.2 ⟨hnd, ?_, ?_⟩
      · simp only [List.flatMap_cons, List.flatMap_nil, List.append_nil]
        cases vv.ownBlock <;> simp
      · intro a ha c hc hac
        subst hac
        simp only [List.flatMap_cons, List.flatMap_nil, List.append_nil] at hc
        exact hvm a (by simpa using hc) (by rw [bl_cons]; exact ha)
  obtain ⟨ka, kc, rfl⟩ := owns_shape hm.hk
  obtain ⟨va, vcap, rfl⟩ := owns_shape hm.hv
  have hBp := hd.lt
  have hb0 := (Below.refl w.heap.size w).alloc (Nat.le_refl _) (.cells #[.slice ka m.kinds.length kc, .slice va m.funcs.length vcap] 33)
  have hd0 := hd.below hb0
  have R1 := R0.below hb0
  have bx0 : F2 (w.alloc (.cells #[.slice ka m.kinds.length kc, .slice va m.funcs.length vcap] 33)) w.heap.size 33 (.slice ka m.kinds.length kc) (.slice va m.funcs.length vcap) := heap_alloc_new w _
  have bl0 := hb0.mono (B' := B) (by omega)
  clear hd R0 hS hm hb0
  have HSM : Hid _ := hsm
  have HFL : Hid _ := hfl
  clear hfl
  go_enter Try.func35, Try.ntmps35
  go_wp2_with fail
  refine (hints_any B ph K m.kinds.length S (.slice ka m.kinds.length kc) (m.kinds.map (Value.int .i64)) _ hd0 (R1.own _ List.mem_cons_self) hsm.1 (R1.free _ List.mem_cons_self) (by omega)).mono ?_
  rintro e w2 ⟨n2, rfl, hd2, _, fr2⟩
  obtain ⟨y0, y1, y2, y3, hph⟩ := hd0.held
  have R2 := R1.step hph fr2 (by decide)
  have bx2 := bx0.fr fr2 (by omega) (ne_f2 (R1.own _ List.mem_cons_self) bx0 (by dsimp only; decide)) (by decide)
  have bl2 := bl0.trans (fr2.below (fun k h => xs_ge h) (by simp only [World.size_alloc]; omega))
  clear hd0 R1 bx0 bl0 hph fr2
  generalize S1 (w.alloc (.cells #[.slice ka m.kinds.length kc, .slice va m.funcs.length vcap] 33)) S (.slice ka m.kinds.length kc) = S2 at *
  clear hsm
  go_wp2
  go_loopw [4] (fun i wr => ∃ (k : Nat) (Si : Nat → Prop), k ≤ m.funcs.length ∧ i = .int .i64 k ∧ Hd wr B ph Si (K + 4 + 16 * k) ∧ RO wr B Si (rows (m.funcs.drop k) (xs.drop k) ++ [⟨86, 4, m.funcs.length, .slice va m.funcs.length vcap, fc xs⟩]) ∧
      F2 wr w.heap.size 33 (.slice ka m.kinds.length kc) (.slice va m.funcs.length vcap) ∧ Below B w wr) (fun i _ => m.funcs.length - (intOf i).toNat)
  case atStart => exact ⟨0, S2, Nat.zero_le _, rfl, hd2, by simpa using R2, bx2, bl2⟩
  case round =>
    obtain ⟨k, Si, hk, rfl, hd, RR, bx, bl⟩ := hrel
    clear hd2 R2 bx2 bl2
    have d1 := bx.c1
    have hBp2 := hd.lt
    have hsmk := HSM.out.2.1
    by_cases hlt : k < m.funcs.length
    · obtain ⟨f, x, hfm, hrd, q0, q1, q2, q3⟩ := rows_drop m.funcs xs k hlt HFL.out
      rw [hrd, rowsOf] at RR
      simp only [List.cons_append, List.nil_append] at RR
      have hsf := HSM.out.2.2 f hfm
      have hvr := RR.own ⟨86, 4, m.funcs.length, .slice va m.funcs.length vcap, fc xs⟩ (by simp)
      obtain ⟨g0, rfl⟩ : ∃ g0, va = some ⟨g0, 0, none⟩ := by
        rcases hvr.2 with ⟨_, h0⟩ | ⟨g0, cap', cur, h0, _⟩
        · simp only at h0; omega
        · simp only [Value.slice.injEq] at h0
          exact ⟨g0, h0.1⟩
      have k0 := (hvr.cellAt (k * 4) (by simp only; omega)).trans q0
      have k1 := (hvr.cellAt (k * 4 + 1) (by simp only; omega)).trans q1
      have k2 := (hvr.cellAt (k * 4 + 2) (by simp only; omega)).trans q2
      have k3 := (hvr.cellAt (k * 4 + 3) (by simp only; omega)).trans q3
      obtain ⟨xp, xr, xl, xc⟩ := x
      simp only at k0 k1 k2 k3 RR
      have op := RR.own _ List.mem_cons_self
      have or := RR.own _ (List.mem_cons_of_mem _ List.mem_cons_self)
      have ol := RR.own _ (List.mem_cons_of_mem _ (List.mem_cons_of_mem _ List.mem_cons_self))
      have oc := RR.own _ (List.mem_cons_of_mem _ (List.mem_cons_of_mem _ (List.mem_cons_of_mem _ List.mem_cons_self)))
      obtain ⟨a1, b1, e1⟩ := owns_shape op
      obtain ⟨a2, b2, e2⟩ := owns_shape or
      obtain ⟨a3, b3, e3⟩ := owns_shape ol
      obtain ⟨a4, b4, e4⟩ := owns_shape oc
      simp only at e1 e2 e3 e4
      subst e1 e2 e3 e4
      clear op or ol oc hvr q0 q1 q2 q3 hrd
      have hb0 := (Below.refl wr.heap.size wr).alloc (Nat.le_refl _) (.cells #[.slice a1 f.params.length b1, .slice a2 f.results.length b2, .slice a3 f.locals.length b3, .slice a4 f.code.length b4] 86)
      have hd0 := hd.below hb0
      have R1 := RR.below hb0
      have bx0 : F2 _ _ _ _ _ := bx.kept (World.grownBy_alloc wr (.cells #[.slice a1 f.params.length b1, .slice a2 f.results.length b2, .slice a3 f.locals.length b3, .slice a4 f.code.length b4] 86) none) (by simp)
      have ff0 : F4 (wr.alloc (.cells #[.slice a1 f.params.length b1, .slice a2 f.results.length b2, .slice a3 f.locals.length b3, .slice a4 f.code.length b4] 86)) wr.heap.size 86 (.slice a1 f.params.length b1) (.slice a2 f.results.length b2) (.slice a3 f.locals.length b3) (.slice a4 f.code.length b4) := heap_alloc_new wr _
      have bl0 := bl.trans (hb0.mono (B' := B) (by omega))
      obtain ⟨y0, y1, y2, y3, hph⟩ := hd0.held
      have hbxl := bx.lt
      have hne : wr.heap.size ≠ ph := by omega
      have hne2 : w.heap.size ≠ ph := by omega
      clear hd RR bx bl hb0
      go_wp2_with fail
      clear k0 k1 k2 k3 d1
      refine (hints_any B ph (K + 4 + 16 * k) f.params.length Si (.slice a1 f.params.length b1) (f.params.map (Value.int .i64)) _ hd0 (R1.own _ List.mem_cons_self) hsf.1 (R1.free _ List.mem_cons_self) (by omega)).mono ?_
      rintro e w3 ⟨n3, rfl, hd3, _, fr3⟩
      have R3 := R1.step hph fr3 (by decide)
      have bx3 := bx0.fr fr3 hne2 (ne_f2 (R1.own _ List.mem_cons_self) bx0 (by dsimp only; decide)) (by decide)
      have ff3 := ff0.fr fr3 hne (ne_ph (R1.own _ List.mem_cons_self) ff0 (by dsimp only; decide)) (by decide)
      have bl3 := bl0.trans (fr3.below (fun k h => xs_ge h) (by simp only [World.size_alloc]; omega))
      clear hd0 R1 bx0 ff0 bl0 hph fr3
      generalize S1 _ Si _ = S3 at *
      obtain ⟨y0, y1, y2, y3, hph⟩ := hd3.held
      have hz3 := hd3.lt
      have d1 := ff3.c1
      go_wp2_with fail
      clear d1
      refine (hints_any B ph (K + 4 + 16 * k + 4) f.results.length S3 (.slice a2 f.results.length b2) (f.results.map (Value.int .i64)) _ hd3 (R3.own _ List.mem_cons_self) hsf.2.1 (R3.free _ List.mem_cons_self) (by omega)).mono ?_
      rintro e w4 ⟨n4, rfl, hd4, _, fr4⟩
      have R4 := R3.step hph fr4 (by decide)
      have bx4 := bx3.fr fr4 hne2 (ne_f2 (R3.own _ List.mem_cons_self) bx3 (by dsimp only; decide)) (by decide)
      have ff4 := ff3.fr fr4 hne (ne_ph (R3.own _ List.mem_cons_self) ff3 (by dsimp only; decide)) (by decide)
      have bl4 := bl3.trans (fr4.below (fun k h => xs_ge h) (by omega))
      clear hd3 R3 bx3 ff3 bl3 hph fr4 hz3
      generalize S1 _ S3 _ = S4 at *
      obtain ⟨y0, y1, y2, y3, hph⟩ := hd4.held
      have hz4 := hd4.lt
      have d1 := ff4.c2
      go_wp2_with fail
      clear d1
      refine (hints_any B ph (K + 4 + 16 * k + 4 + 4) f.locals.length S4 (.slice a3 f.locals.length b3) (f.locals.map (Value.int .i64)) _ hd4 (R4.own _ List.mem_cons_self) hsf.2.2.1 (R4.free _ List.mem_cons_self) (by omega)).mono ?_
      rintro e w5 ⟨n5, rfl, hd5, _, fr5⟩
      have R5 := R4.step hph fr5 (by decide)
      have bx5 := bx4.fr fr5 hne2 (ne_f2 (R4.own _ List.mem_cons_self) bx4 (by dsimp only; decide)) (by decide)
      have ff5 := ff4.fr fr5 hne (ne_ph (R4.own _ List.mem_cons_self) ff4 (by dsimp only; decide)) (by decide)
      have bl5 := bl4.trans (fr5.below (fun k h => xs_ge h) (by omega))
      clear hd4 R4 bx4 ff4 bl4 hph fr5 hz4
      generalize S1 _ S4 _ = S5 at *
      obtain ⟨y0, y1, y2, y3, hph⟩ := hd5.held
      have hz5 := hd5.lt
      have d1 := ff5.c3
      go_wp2_with fail
      clear d1
      refine (hcode_any B ph (K + 4 + 16 * k + 4 + 4 + 4) f.code.length S5 (.slice a4 f.code.length b4) (cc f.code) _ hd5 (R5.own _ List.mem_cons_self) hsf.2.2.2 (R5.free _ List.mem_cons_self) (by omega)).mono ?_
      rintro e w6 ⟨n6, rfl, hd6, _, fr6⟩
      have R6 := R5.step hph fr6 (by decide)
      have bx6 := bx5.fr fr6 hne2 (ne_f2 (R5.own _ List.mem_cons_self) bx5 (by dsimp only; decide)) (by decide)
      have bl6 := bl5.trans (fr6.below (fun k h => xs_ge h) (by omega))
      clear hd5 R5 bx5 ff5 bl5 hph fr6 hz5
      generalize S1 _ S5 _ = S6 at *
      go_wp2
      go_roundw
      case rel => exact ⟨k + 1, S6, hlt, by go_num, by rw [show K + 4 + 16 * (k + 1) = K + 4 + 16 * k + 4 + 4 + 4 + 4 from by omega]; exact hd6, R6, bx6, bl6⟩
      case measure => simp [intOf]; omega
    · have hkn : k = m.funcs.length := by omega
      subst hkn
      rw [List.drop_of_length_le (Nat.le_refl _)] at RR
      simp only [rows, List.nil_append] at RR
      go_wp2_with fail
      refine (hfuncs_any B ph (K + 4 + 16 * m.funcs.length) m.funcs.length Si (.slice va m.funcs.length vcap) (fc xs) _ hd (RR.own _ List.mem_cons_self) hsmk (RR.free _ List.mem_cons_self) (by omega)).mono ?_
      rintro e w3 ⟨rfl, hd3, _, fr3⟩
      have bl3 := bl.trans (fr3.below (fun k h => xs_ge h) (by omega))
      have hdf : ∃ S', Hd w3 B ph S' (K + 16 * m.funcs.length + 8) := ⟨_, by rw [show K + 16 * m.funcs.length + 8 = K + 4 + 16 * m.funcs.length + 4 from by omega]; exact hd3⟩
      have HDF : Hid _ := hdf
      clear hd RR bx bl hd3 fr3 hdf
      go_wp2
      go_end0
      exact ⟨rfl, HDF.out, bl3⟩
end Go.Proofs.Ytjamgmbdilkbcaa

/- all, marked, num. -/
namespace Go.Proofs.Ytjamgmbdilkbcaa
open Go.RowKit

set_option maxHeartbeats 400000 in
theorem all_any (n : Nat) (x : Int) (v : Value) (B : Nat) (w : World) (h : IntsR w B v (List.replicate n x)) (hl : n ≤ maxLen) :
    Calls Try.prog 37 #[v, .int .i64 x] w fun e w' => e = .returned (.bool true) ∧ Below B w w' ∧ w'.heap = w.heap := by
  obtain ⟨ao, cap, b, off, rfl, h1, h2⟩ := h
  rw [List.length_replicate] at h1 h2
  have H1 : Hid _ := h1
  have H2 : Hid _ := h2
  clear h1 h2
  unfold maxLen at hl
  rw [List.length_replicate]
  go_enter Try.func37, Try.ntmps37
  go_wp2
  go_loopw [5] (fun i wr => ∃ k : Nat, k ≤ n ∧ i = .int .i64 k ∧ Below B w wr ∧ wr.heap = w.heap) (fun i _ => n - (intOf i).toNat)
  case atStart => exact ⟨0, Nat.zero_le _, rfl, Below.refl _ _, rfl⟩
  case round =>
    obtain ⟨k, hk, rfl, hb, hh⟩ := hrel
    have HH : Hid _ := hh
    clear hh
    by_cases hlt : k < n
    · obtain ⟨rfl, hbB⟩ := H1.out (by omega)
      have c1 := (hb.cell (p := ⟨b, off + k, none⟩) hbB).trans (H2.out k hlt)
      rw [show (List.replicate n x).getD k 0 = x from by simp [List.getD_eq_getElem?_getD, hlt]] at c1
      go_wp2
      go_roundw
      case rel => exact ⟨k + 1, hlt, by go_num, hb, HH.out⟩
      case measure => simp [intOf]; omega
    · go_wp2
      go_ret
      exact ⟨rfl, hb, HH.out⟩

set_option maxHeartbeats 400000 in
theorem marked_any (S : Nat → Prop) (f : FV) (x : Int) (w : World) (h : MarkedF w S f x) :
    Calls Try.prog 39 #[.agg #[f.p, f.r, f.l, f.c], .int .i64 x] w fun e w' => e = .returned (.bool true) ∧ Below w.heap.size w w' := by
  obtain ⟨q, c, rfl, _, hq⟩ := h
  have hb := (Below.refl w.heap.size w).alloc (Nat.le_refl _) (.cells #[.slice (some ⟨q, 0, none⟩) 1 c, .slice none 0 0, .slice none 0 0, .slice none 0 0] 86)
  have hql := (Array.getElem?_eq_some_iff.1 hq).1
  have c0 : w.cell? ⟨q, 0, none⟩ = some (.int .i64 x) := by simp [World.cell?, hq]
  have c1 := (hb.cell (p := ⟨q, 0, none⟩) hql).trans c0
  clear hq
  simp only
  go_enter Try.func39, Try.ntmps39
  go_wp2
  go_ret
  exact ⟨rfl, hb⟩

theorem num_any (x : Int) (w : World) :
    Calls Try.prog 36 #[.int .i64 x] w fun e w' => e = .returned (.int .i64 x) ∧ w' = w := by
  go_enter Try.func36, Try.ntmps36
  go_wp2
  go_ret
  exact ⟨rfl, rfl⟩
end Go.Proofs.Ytjamgmbdilkbcaa
