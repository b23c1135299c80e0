import Derived.Test.YtjamgmbdilkbcaaGreatLotLedgers01
/- The walks of wire's reader: function. -/
namespace Go.Proofs.YtjamgmbdilkbcaaGreat
open Go.RowKit

structure FV where
  p : Value
  r : Value
  l : Value
  c : Value
def FV.cells (x : FV) : List Value := [x.p, x.r, x.l, x.c]
def bl (vs : List Value) : List Nat := vs.flatMap fun v => v.ownBlock.toList
theorem bl_nil : bl [] = [] := rfl
theorem bl_cons (v : Value) (vs : List Value) : bl (v :: vs) = v.ownBlock.toList ++ bl vs := by simp [bl]
theorem bl_append (a b : List Value) : bl (a ++ b) = bl a ++ bl b := by simp [bl]
structure FnAt (w : World) (B : Nat) (f : Pu.Fn) (x : FV) : Prop where
  p : w.ownsRow B 3 1 x.p f.params.length (f.params.map (Value.int .i64))
  r : w.ownsRow B 3 1 x.r f.results.length (f.results.map (Value.int .i64))
  l : w.ownsRow B 3 1 x.l f.locals.length (f.locals.map (Value.int .i64))
  c : w.ownsRow B 56 2 x.c f.code.length (cc f.code)
theorem FnAt.kept {w w' : World} {B p : Nat} {f : Pu.Fn} {x : FV} (h : FnAt w B f x) (hg : w.grownBy w' (some p)) (hp : p < B) : FnAt w' B f x :=
  ⟨owns_grown h.p hg hp, owns_grown h.r hg hp, owns_grown h.l hg hp, owns_grown h.c hg hp⟩
theorem owns_shape {w : World} {B e size n : Nat} {v : Value} {xs : List Value} (h : w.ownsRow B e size v n xs) : ∃ ao cap, v = .slice ao n cap := by
  rcases h.2 with ⟨rfl, rfl⟩ | ⟨g, cap, cur, rfl, _⟩
  · exact ⟨none, 0, rfl⟩
  · exact ⟨_, _, rfl⟩
theorem owns_bl {w : World} {B e size n : Nat} {v : Value} {xs : List Value} (h : w.ownsRow B e size v n xs) : ∀ k ∈ v.ownBlock.toList, B <= k /\ k < w.heap.size := by
  intro k hk
  exact h.lt k (by simpa using hk)
def F4 (w : World) (q : Nat) (t : TypeId) (x0 x1 x2 x3 : Value) : Prop := w.heap[q]? = some (.cells #[x0, x1, x2, x3] t (0, 0))
section
variable {w w' : World} {q : Nat} {t : TypeId} {x0 x1 x2 x3 : Value}
theorem F4.lt (h : F4 w q t x0 x1 x2 x3) : q < w.heap.size := (Array.getElem?_eq_some_iff.1 h).1
theorem F4.c0 (h : F4 w q t x0 x1 x2 x3) : w.cell? ⟨q, 0, none⟩ = some x0 := by unfold F4 at h; simp [World.cell?, h]
theorem F4.c1 (h : F4 w q t x0 x1 x2 x3) : w.cell? ⟨q, 1, none⟩ = some x1 := by unfold F4 at h; simp [World.cell?, h]
theorem F4.c2 (h : F4 w q t x0 x1 x2 x3) : w.cell? ⟨q, 2, none⟩ = some x2 := by unfold F4 at h; simp [World.cell?, h]
theorem F4.c3 (h : F4 w q t x0 x1 x2 x3) : w.cell? ⟨q, 3, none⟩ = some x3 := by unfold F4 at h; simp [World.cell?, h]
theorem F4.fz (h : F4 w q t x0 x1 x2 x3) (o : Nat) : w.frozen? ⟨q, o, none⟩ = false := by unfold F4 at h; simp [World.frozen?, h]
theorem F4.kept {r : Option Nat} (h : F4 w q t x0 x1 x2 x3) (hg : w.grownBy w' r) (hr : some q ≠ r) : F4 w' q t x0 x1 x2 x3 := (hg.block q h.lt hr).trans h
theorem F4.set0 (h : F4 w q t x0 x1 x2 x3) (v : Value) : F4 (w.setCell ⟨q, 0, none⟩ v) q t v x1 x2 x3 := by unfold F4 at h ⊢; simp [World.setCell, Array.getElem?_modify, h]
theorem F4.set1 (h : F4 w q t x0 x1 x2 x3) (v : Value) : F4 (w.setCell ⟨q, 1, none⟩ v) q t x0 v x2 x3 := by unfold F4 at h ⊢; simp [World.setCell, Array.getElem?_modify, h]
theorem F4.set2 (h : F4 w q t x0 x1 x2 x3) (v : Value) : F4 (w.setCell ⟨q, 2, none⟩ v) q t x0 x1 v x3 := by unfold F4 at h ⊢; simp [World.setCell, Array.getElem?_modify, h]
theorem F4.set3 (h : F4 w q t x0 x1 x2 x3) (v : Value) : F4 (w.setCell ⟨q, 3, none⟩ v) q t x0 x1 x2 v := by unfold F4 at h ⊢; simp [World.setCell, Array.getElem?_modify, h]
end

theorem grown_set (w : World) (q o : Nat) (v : Value) : w.grownBy (w.setCell ⟨q, o, none⟩ v) (some q) := by
  refine ⟨rfl, rfl, rfl, by simp [World.setCell], fun k _ hk => ?_⟩
  rw [Below.heap_setCell _ _ _ _ (by intro e; exact hk (by simp [e]))]
theorem grown_new {w wk : World} {q : Nat} {r : Option Nat} (h : w.grownBy wk r) (hq : w.heap.size <= q) (o : Nat) (v : Value) : w.grownBy (wk.setCell ⟨q, o, none⟩ v) r :=
  ⟨h.os, h.tape, h.output, by have := h.size; simpa [World.setCell] using this, fun k hk hr => by rw [Below.heap_setCell _ _ _ _ (by show k ≠ q; omega)]; exact h.block k hk hr⟩
theorem owns_set {w : World} {B e size n q : Nat} {v : Value} {xs : List Value} (h : w.ownsRow B e size v n xs) (hq : v.ownBlock ≠ some q) (o : Nat) (u : Value) : (w.setCell ⟨q, o, none⟩ u).ownsRow B e size v n xs :=
  h.kept (grown_set w q o u) (.inr hq)
theorem Rd.set {w : World} {p q o : Nat} {u : Value} {b : ByteArray} {s : Pu.St} (h : Rd w p b s) (hq : p ≠ q) : Rd (w.setCell ⟨q, o, none⟩ u) p b s :=
  h.kept (grown_set w q o u) (by simpa using hq)
structure FS (w wk : World) (p : Nat) (b : ByteArray) (s : Pu.St) (x0 x1 x2 x3 : Value) : Prop where
  rd : Rd wk p b s
  res : F4 wk w.heap.size 62 (.slice none 0 0) (.slice none 0 0) (.slice none 0 0) (.slice none 0 0)
  f : F4 wk (w.heap.size + 1) 62 x0 x1 x2 x3
  g : w.grownBy wk (some p)
section
variable {w wk w1 : World} {p : Nat} {b : ByteArray} {s s' : Pu.St} {x0 x1 x2 x3 : Value}
theorem FS.call (hp : p < w.heap.size) (h : FS w wk p b s x0 x1 x2 x3) (hr : Rd w1 p b s') (hg : wk.grownBy w1 (some p)) : FS w w1 p b s' x0 x1 x2 x3 :=
  ⟨hr, h.res.kept hg (by simp; omega), h.f.kept hg (by simp; omega), grown_trans h.g hg⟩
theorem FS.other (h : FS w wk p b s x0 x1 x2 x3) (hp : p < w.heap.size) {q : Nat} (o : Nat) (v : Value) (hq : w.heap.size + 1 < q) : FS w (wk.setCell ⟨q, o, none⟩ v) p b s x0 x1 x2 x3 :=
  ⟨h.rd.set (by omega), h.res.kept (grown_set _ _ _ _) (by simp; omega), h.f.kept (grown_set _ _ _ _) (by simp; omega), ⟨h.g.os, h.g.tape, h.g.output, by have := h.g.size; simpa [World.setCell] using this, fun k hk hr => by rw [Below.heap_setCell _ _ _ _ (by show k ≠ q; omega)]; exact h.g.block k hk hr⟩⟩
theorem FS.gset (h : FS w wk p b s x0 x1 x2 x3) {q : Nat} (o : Nat) (v : Value) (hq : w.heap.size <= q) : w.grownBy (wk.setCell ⟨q, o, none⟩ v) (some p) := grown_new h.g hq o v
theorem FS.set0 (h : FS w wk p b s x0 x1 x2 x3) (hp : p < w.heap.size) (v : Value) : FS w (wk.setCell ⟨w.heap.size + 1, 0, none⟩ v) p b s v x1 x2 x3 :=
  ⟨h.rd.set (by omega), h.res.kept (grown_set _ _ _ _) (by simp), h.f.set0 v, h.gset 0 v (by omega)⟩
theorem FS.set1 (h : FS w wk p b s x0 x1 x2 x3) (hp : p < w.heap.size) (v : Value) : FS w (wk.setCell ⟨w.heap.size + 1, 1, none⟩ v) p b s x0 v x2 x3 :=
  ⟨h.rd.set (by omega), h.res.kept (grown_set _ _ _ _) (by simp), h.f.set1 v, h.gset 1 v (by omega)⟩
theorem FS.set2 (h : FS w wk p b s x0 x1 x2 x3) (hp : p < w.heap.size) (v : Value) : FS w (wk.setCell ⟨w.heap.size + 1, 2, none⟩ v) p b s x0 x1 v x3 :=
  ⟨h.rd.set (by omega), h.res.kept (grown_set _ _ _ _) (by simp), h.f.set2 v, h.gset 2 v (by omega)⟩
theorem FS.set3 (h : FS w wk p b s x0 x1 x2 x3) (hp : p < w.heap.size) (v : Value) : FS w (wk.setCell ⟨w.heap.size + 1, 3, none⟩ v) p b s x0 x1 x2 v :=
  ⟨h.rd.set (by omega), h.res.kept (grown_set _ _ _ _) (by simp), h.f.set3 v, h.gset 3 v (by omega)⟩
theorem FS.alloc (h : FS w wk p b s x0 x1 x2 x3) (o : Obj) : FS w (wk.alloc o) p b s x0 x1 x2 x3 :=
  ⟨h.rd.kept (World.grownBy_alloc _ _ none) (by simp), h.res.kept (World.grownBy_alloc _ _ none) (by simp), h.f.kept (World.grownBy_alloc _ _ none) (by simp), grown_trans h.g (World.grownBy_alloc _ _ _)⟩
end

theorem FS.start {w : World} {p : Nat} {b : ByteArray} {s : Pu.St} (h : Rd w p b s) :
    FS w ((w.alloc (.cells #[.slice none 0 0, .slice none 0 0, .slice none 0 0, .slice none 0 0] 62)).alloc (.cells #[.slice none 0 0, .slice none 0 0, .slice none 0 0, .slice none 0 0] 62)) p b s (.slice none 0 0) (.slice none 0 0) (.slice none 0 0) (.slice none 0 0) := by
  refine ⟨(h.kept (World.grownBy_alloc _ _ none) (by simp)).kept (World.grownBy_alloc _ _ none) (by simp), ?_, ?_, grown_trans (World.grownBy_alloc _ _ _) (World.grownBy_alloc _ _ _)⟩
  · unfold F4
    rw [Below.heap_alloc _ _ _ (by simp)]
    exact heap_alloc_new w _
  · have := heap_alloc_new (w.alloc (.cells #[.slice none 0 0, .slice none 0 0, .slice none 0 0, .slice none 0 0] 62)) (.cells #[.slice none 0 0, .slice none 0 0, .slice none 0 0, .slice none 0 0] 62)
    simpa [F4] using this
theorem owns_set_lt {w : World} {B e size n q : Nat} {v : Value} {xs : List Value} (h : w.ownsRow B e size v n xs) (hq : q < B) (o : Nat) (u : Value) : (w.setCell ⟨q, o, none⟩ u).ownsRow B e size v n xs :=
  owns_set h (fun e => by have := (h.lt q e).1; omega) o u
theorem list_len (b : ByteArray) (most hi : Int) (s : Pu.St) : (Pu.list b most hi s).1.length <= 255 := by
  unfold Pu.list
  rw [Pu.nums_len]
  have := Pu.number_rng b 0 most s
  omega
theorem nodup4 {v1 v2 v3 v4 : Value} {b1 b2 b3 b4 b5 : Nat} (h12 : b2 <= b3) (h23 : b3 <= b4)
    (h1 : ∀ k ∈ v1.ownBlock.toList, b1 <= k /\ k < b2) (h2 : ∀ k ∈ v2.ownBlock.toList, b2 <= k /\ k < b3) (h3 : ∀ k ∈ v3.ownBlock.toList, b3 <= k /\ k < b4) (h4 : ∀ k ∈ v4.ownBlock.toList, b4 <= k /\ k < b5) :
    (bl [v1, v2, v3, v4]).Nodup := by
  have nd : ∀ v : Value, v.ownBlock.toList.Nodup := fun v => by cases v.ownBlock <;> simp
  simp only [bl_cons, bl_nil, List.append_nil]
  refine List.nodup_append.2 ⟨nd _, List.nodup_append.2 ⟨nd _, List.nodup_append.2 ⟨nd _, nd _, ?_⟩, ?_⟩, ?_⟩
  · intro a ha c hc; have := h3 a ha; have := h4 c hc; omega
  · intro a ha c hc
    have := h2 a ha
    rcases List.mem_append.1 hc with hc | hc
    · have := h3 c hc; omega
    · have := h4 c hc; omega
  · intro a ha c hc
    have := h1 a ha
    rcases List.mem_append.1 hc with hc | hc
    · have := h2 c hc; omega
    · rcases List.mem_append.1 hc with hc | hc
      · have := h3 c hc; omega
      · have := h4 c hc; omega
set_option maxHeartbeats 1000000 in
theorem function_any (p : Nat) (b : ByteArray) (s : Pu.St) (ki fu : Int) (w : World) (h : Rd w p b s) (hs : b.size <= maxLen)
    (hki : 0 <= ki /\ ki <= 1000) (hfu : 0 <= fu /\ fu <= 1000) :
    Calls Tryz.prog 77 #[.pointer (some ⟨p, 0, none⟩), .int .i64 ki, .int .i64 fu] w fun e w' =>
      ∃ x : FV, e = .returned (.agg #[x.p, x.r, x.l, x.c]) /\ FnAt w' w.heap.size (Pu.func b ki fu s).1 x /\ (bl x.cells).Nodup /\
        Rd w' p b (Pu.func b ki fu s).2 /\ w.grownBy w' (some p) := by
  have hp := h.lt
  have F0 := FS.start h
  clear h
  go_enter Tryz.func77, Tryz.ntmps77
  go_wp2_with fail
  refine (list_any p b s 4 ki _ F0.rd hs).mono ?_
  rintro e w1 ⟨v, rfl, hown1, hrd, hg⟩
  have F1 := F0.call hp hrd hg
  clear F0 hrd hg
  obtain ⟨ao1, cap1, rfl⟩ := owns_shape hown1
  have hl1 := list_len b 4 ki s
  generalize hq : Pu.list b 4 ki s = q at *
  have H1 : Hid _ := hq
  clear hq
  obtain ⟨l1, s1⟩ := q
  simp only [World.size_alloc] at *
  have c0 := F1.f.c0
  have f0 := F1.f.fz 0
  have F1' := F1.set0 hp (.slice ao1 l1.length cap1)
  have hown1' := owns_set_lt hown1 (q := w.heap.size + 1) (by omega) 0 (.slice ao1 l1.length cap1)
  have r1 : Hid _ := owns_bl hown1
  have hw1 := F1.f.lt
  clear F1 hown1
  go_wp2_with fail
  clear c0 f0
  refine (list_any p b s1 3 ki _ F1'.rd hs).mono ?_
  rintro e w2 ⟨v, rfl, hown2, hrd, hg⟩
  have F2 := F1'.call hp hrd hg
  have hown1 := owns_grown hown1' hg (by omega)
  have z1 : w1.heap.size <= w2.heap.size := by have := hg.size; simpa [World.setCell] using this
  clear F1' hrd hg hown1'
  obtain ⟨ao2, cap2, rfl⟩ := owns_shape hown2
  generalize hq : Pu.list b 3 ki s1 = q at *
  have H2 : Hid _ := hq
  clear hq
  obtain ⟨l2, s2⟩ := q
  simp only at *
  rw [show (w1.setCell ⟨w.heap.size + 1, 0, none⟩ (.slice ao1 l1.length cap1)).heap.size = w1.heap.size from by simp [World.setCell]] at hown2
  have c0 := F2.f.c1
  have f0 := F2.f.fz 1
  have F2' := F2.set1 hp (.slice ao2 l2.length cap2)
  have hown2' := owns_set_lt hown2 (q := w.heap.size + 1) (by omega) 1 (.slice ao2 l2.length cap2)
  have hown1' := owns_set_lt hown1 (q := w.heap.size + 1) (by omega) 1 (.slice ao2 l2.length cap2)
  have r2 : Hid _ := owns_bl hown2
  clear F2 hown1 hown2
  go_wp2_with fail
  clear c0 f0
  refine (list_any p b s2 4 ki _ F2'.rd hs).mono ?_
  rintro e w3 ⟨v, rfl, hown3, hrd, hg⟩
  have F3 := F2'.call hp hrd hg
  have hown1 := owns_grown hown1' hg (by omega)
  have hown2 := owns_grown hown2' hg (by omega)
  have z2 : w2.heap.size <= w3.heap.size := by have := hg.size; simpa [World.setCell] using this
  clear F2' hrd hg hown1' hown2'
  obtain ⟨ao3, cap3, rfl⟩ := owns_shape hown3
  have hl3 := list_len b 4 ki s2
  generalize hq : Pu.list b 4 ki s2 = q at *
  have H3 : Hid _ := hq
  clear hq
  obtain ⟨l3, s3⟩ := q
  simp only at *
  rw [show (w2.setCell ⟨w.heap.size + 1, 1, none⟩ (.slice ao2 l2.length cap2)).heap.size = w2.heap.size from by simp [World.setCell]] at hown3
  have c0 := F3.f.c0
  have c2 := F3.f.c2
  have f0 := F3.f.fz 2
  have F3' := (F3.set2 hp (.slice ao3 l3.length cap3)).alloc (.cells #[.int .i64 ki, .int .i64 fu, .int .i64 ((l1.length : Int) + (l3.length : Int)), .int .i64 0] 214)
  have hown3' := (owns_set_lt hown3 (q := w.heap.size + 1) (by omega) 2 (.slice ao3 l3.length cap3)).alloc (.cells #[.int .i64 ki, .int .i64 fu, .int .i64 ((l1.length : Int) + (l3.length : Int)), .int .i64 0] 214)
  have hown2' := (owns_set_lt hown2 (q := w.heap.size + 1) (by omega) 2 (.slice ao3 l3.length cap3)).alloc (.cells #[.int .i64 ki, .int .i64 fu, .int .i64 ((l1.length : Int) + (l3.length : Int)), .int .i64 0] 214)
  have hown1' := (owns_set_lt hown1 (q := w.heap.size + 1) (by omega) 2 (.slice ao3 l3.length cap3)).alloc (.cells #[.int .i64 ki, .int .i64 fu, .int .i64 ((l1.length : Int) + (l3.length : Int)), .int .i64 0] 214)
  have r3 : Hid _ := owns_bl hown3
  have hbx : Bx ((w3.setCell ⟨w.heap.size + 1, 2, none⟩ (.slice ao3 l3.length cap3)).alloc (.cells #[.int .i64 ki, .int .i64 fu, .int .i64 ((l1.length : Int) + (l3.length : Int)), .int .i64 0] 214)) w3.heap.size ki fu ((l1.length : Int) + (l3.length : Int)) 0 := by
    have := heap_alloc_new (w3.setCell ⟨w.heap.size + 1, 2, none⟩ (.slice ao3 l3.length cap3)) (.cells #[.int .i64 ki, .int .i64 fu, .int .i64 ((l1.length : Int) + (l3.length : Int)), .int .i64 0] 214)
    simpa [Bx, World.setCell] using this
  clear F3 hown1 hown2 hown3
  go_wp2_with fail
  clear c0 c2 f0
  refine (number_any p b s3 1 100 _ F3'.rd hs).mono ?_
  rintro e w4 ⟨rfl, hrd, hg, hsz⟩
  have F4' := F3'.call hp hrd hg
  have hown1 := owns_grown hown1' hg (by omega)
  have hown2 := owns_grown hown2' hg (by omega)
  have hown3 := owns_grown hown3' hg (by omega)
  have hbx4 := hbx.kept hg (by simp; omega)
  have hsz4 : w3.heap.size < w4.heap.size := by have h' : w4.heap.size = w3.heap.size + 1 := by simpa [World.setCell] using hsz
                                                omega
  clear F3' hrd hg hown1' hown2' hown3' hbx hsz
  have hn0 := Pu.number_rng b 1 100 s3
  generalize hq : Pu.number b 1 100 s3 = q at *
  have H4 : Hid _ := hq
  clear hq
  obtain ⟨nn, s4⟩ := q
  simp only at *
  obtain ⟨n, rfl⟩ := Int.eq_ofNat_of_zero_le hn0.1
  have hn : n <= 255 := by omega
  clear hn0
  have c3 := hbx4.c3
  have f3 := hbx4.fz 3
  have hbx5 := hbx4.set3 n
  have d0 := hbx5.c0
  have d1 := hbx5.c1
  have d2 := hbx5.c2
  have d3 := hbx5.c3
  have F5 := F4'.other hp 3 (.int .i64 n) (q := w3.heap.size) (by omega)
  have hown1' := owns_set hown1 (q := w3.heap.size) (by intro e; have := (r1.out w3.heap.size (by simp [e])).2; omega) 3 (.int .i64 n)
  have hown2' := owns_set hown2 (q := w3.heap.size) (by intro e; have := (r2.out w3.heap.size (by simp [e])).2; omega) 3 (.int .i64 n)
  have hown3' := owns_set hown3 (q := w3.heap.size) (by intro e; have := (r3.out w3.heap.size (by simp [e])).2; omega) 3 (.int .i64 n)
  clear F4' hbx4 hbx5 hown1 hown2 hown3
  go_wp2_with fail
  clear c3 f3 d0 d1 d2 d3
  refine (code_any p b s4 ki fu _ n _ F5.rd hs hki hfu (by omega) (by omega)).mono ?_
  rintro e w6 ⟨v, rfl, hown4, hrd, hg⟩
  have F6 := F5.call hp hrd hg
  have hown1 := owns_grown hown1' hg (by omega)
  have hown2 := owns_grown hown2' hg (by omega)
  have hown3 := owns_grown hown3' hg (by omega)
  clear F5 hrd hg hown1' hown2' hown3'
  obtain ⟨ao4, cap4, rfl⟩ := owns_shape hown4
  have hcl := Pu.code_len b ki fu (↑l1.length + ↑l3.length) n s4 n
  generalize hq : Pu.code b ki fu (↑l1.length + ↑l3.length) n s4 n = q at *
  have H5 : Hid _ := hq
  clear hq
  obtain ⟨l4, s5⟩ := q
  simp only at *
  rw [show (w4.setCell ⟨w3.heap.size, 3, none⟩ (.int .i64 n)).heap.size = w4.heap.size from by simp [World.setCell]] at hown4
  have r4 : Hid _ := owns_bl hown4
  have HN : Hid _ := hcl
  clear hcl
  have c3 := F6.f.c3
  have f3 := F6.f.fz 3
  have F7 := F6.set3 hp (.slice ao4 n cap4)
  have hown1' := owns_set_lt hown1 (q := w.heap.size + 1) (by omega) 3 (.slice ao4 n cap4)
  have hown2' := owns_set_lt hown2 (q := w.heap.size + 1) (by omega) 3 (.slice ao4 n cap4)
  have hown3' := owns_set_lt hown3 (q := w.heap.size + 1) (by omega) 3 (.slice ao4 n cap4)
  have hown4' := owns_set_lt hown4 (q := w.heap.size + 1) (by omega) 3 (.slice ao4 n cap4)
  clear F6 hown1 hown2 hown3 hown4
  have d0 := F7.f.c0
  have d1 := F7.f.c1
  have d2 := F7.f.c2
  have d3 := F7.f.c3
  have e0 := F7.res.fz 0
  have e1 := F7.res.fz 1
  have e2 := F7.res.fz 2
  have e3 := F7.res.fz 3
  have g0 := F7.res.c0
  have g1 := F7.res.c1
  have g2 := F7.res.c2
  have g3 := F7.res.c3
  go_wp2
  clear d0 d1 d2 d3 e0 e1 e2 e3 g0 g1 g2 g3 c3 f3
  have R := (((F7.res.set0 (.slice ao1 l1.length cap1)).set1 (.slice ao2 l2.length cap2)).set2 (.slice ao3 l3.length cap3)).set3 (.slice ao4 n cap4)
  have hP : Pu.func b ki fu s = (⟨l1, l2, l3, l4⟩, s5) := by simp only [Pu.func, H1.out, H2.out, H3.out, H4.out, Int.toNat_natCast, H5.out]
  have q0 := R.c0
  have q1 := R.c1
  have q2 := R.c2
  have q3 := R.c3
  refine bodyPost_ret (v := .agg #[.slice ao1 l1.length cap1, .slice ao2 l2.length cap2, .slice ao3 l3.length cap3, .slice ao4 n cap4]) (by simp [results, Tryz.results77, go_sem, q0, q1, q2, q3]) rfl ⟨⟨.slice ao1 l1.length cap1, .slice ao2 l2.length cap2, .slice ao3 l3.length cap3, .slice ao4 n cap4⟩, rfl, ?_, ?_, ?_, ?_⟩
  · rw [hP]
    have k1 := owns_set_lt (owns_set_lt (owns_set_lt (owns_set_lt hown1' (q := w.heap.size) (by omega) 0 (.slice ao1 l1.length cap1)) (q := w.heap.size) (by omega) 1 (.slice ao2 l2.length cap2)) (q := w.heap.size) (by omega) 2 (.slice ao3 l3.length cap3)) (q := w.heap.size) (by omega) 3 (.slice ao4 n cap4)
    have k2 := owns_set_lt (owns_set_lt (owns_set_lt (owns_set_lt hown2' (q := w.heap.size) (by omega) 0 (.slice ao1 l1.length cap1)) (q := w.heap.size) (by omega) 1 (.slice ao2 l2.length cap2)) (q := w.heap.size) (by omega) 2 (.slice ao3 l3.length cap3)) (q := w.heap.size) (by omega) 3 (.slice ao4 n cap4)
    have k3 := owns_set_lt (owns_set_lt (owns_set_lt (owns_set_lt hown3' (q := w.heap.size) (by omega) 0 (.slice ao1 l1.length cap1)) (q := w.heap.size) (by omega) 1 (.slice ao2 l2.length cap2)) (q := w.heap.size) (by omega) 2 (.slice ao3 l3.length cap3)) (q := w.heap.size) (by omega) 3 (.slice ao4 n cap4)
    have k4 := owns_set_lt (owns_set_lt (owns_set_lt (owns_set_lt hown4' (q := w.heap.size) (by omega) 0 (.slice ao1 l1.length cap1)) (q := w.heap.size) (by omega) 1 (.slice ao2 l2.length cap2)) (q := w.heap.size) (by omega) 2 (.slice ao3 l3.length cap3)) (q := w.heap.size) (by omega) 3 (.slice ao4 n cap4)
    exact ⟨owns_base k1 (by omega), owns_base k2 (by omega), owns_base k3 (by omega), by rw [show (Pu.Fn.code ⟨l1, l2, l3, l4⟩).length = n from HN.out]; exact owns_base k4 (by omega)⟩
  · exact nodup4 z1 (by omega) r1.out r2.out (b4 := w4.heap.size) (fun k hk => by have := r3.out k hk; omega) r4.out
  · rw [hP]
    exact (((F7.rd.set (by omega)).set (by omega)).set (by omega)).set (by omega)
  · exact grown_new (grown_new (grown_new (grown_new F7.g (Nat.le_refl _) 0 _) (Nat.le_refl _) 1 _) (Nat.le_refl _) 2 _) (Nat.le_refl _) 3 _
end Go.Proofs.YtjamgmbdilkbcaaGreat
