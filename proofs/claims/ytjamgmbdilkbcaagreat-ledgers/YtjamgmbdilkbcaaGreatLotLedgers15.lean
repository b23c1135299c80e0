import Derived.Test.YtjamgmbdilkbcaaGreatLotLedgers14
/- The document's after. -/
namespace Go.Proofs.YtjamgmbdilkbcaaGreat
open Go.RowKit

def PV (a : Nat) (f : Pu.Fn) (t : Fl.S) : Value := .agg #[.int .i64 a, .string (str t.stk), .string (bs (spots (Fl.places f) t.full))]
def AfterOut (w w' : World) (m : Pu.Md) (f : Pu.Fn) (a : Nat) (x : Int × Int) (t : Fl.S) (e : Ending) : Prop :=
  ∃ ok qv, e = .returned (.tuple #[qv, .bool ok]) /\ (ok = true ↔ (Fl.after m f x t).isSome = true) /\ (∀ t', Fl.after m f x t = some t' -> x.1 ≠ 0 -> qv = PV a f t') /\ (∃ b s1 s2, qv = .agg #[.int .i64 b, .string s1, .string s2]) /\ Below w.heap.size w w'
def F3 (w : World) (q : Nat) (t : TypeId) (x0 x1 x2 : Value) : Prop := w.heap[q]? = some (.cells #[x0, x1, x2] t (0, 0))
section
variable {w w' : World} {q : Nat} {t : TypeId} {x0 x1 x2 : Value}
theorem F3.lt (h : F3 w q t x0 x1 x2) : q < w.heap.size := (Array.getElem?_eq_some_iff.1 h).1
theorem F3.c0 (h : F3 w q t x0 x1 x2) : w.cell? ⟨q, 0, none⟩ = some x0 := by unfold F3 at h; simp [World.cell?, h]
theorem F3.c1 (h : F3 w q t x0 x1 x2) : w.cell? ⟨q, 1, none⟩ = some x1 := by unfold F3 at h; simp [World.cell?, h]
theorem F3.c2 (h : F3 w q t x0 x1 x2) : w.cell? ⟨q, 2, none⟩ = some x2 := by unfold F3 at h; simp [World.cell?, h]
theorem F3.fz (h : F3 w q t x0 x1 x2) (i : Nat) : w.frozen? ⟨q, i, none⟩ = false := by unfold F3 at h; simp [World.frozen?, h]
end

section
variable {w w' : World} {q : Nat} {t : TypeId} {x0 x1 x2 : Value}
theorem F3.set0 (h : F3 w q t x0 x1 x2) (v : Value) : F3 (w.setCell ⟨q, 0, none⟩ v) q t v x1 x2 := by unfold F3 at h ⊢; simp [World.setCell, Array.getElem?_modify, h]
theorem F3.set1 (h : F3 w q t x0 x1 x2) (v : Value) : F3 (w.setCell ⟨q, 1, none⟩ v) q t x0 v x2 := by unfold F3 at h ⊢; simp [World.setCell, Array.getElem?_modify, h]
theorem F3.set2 (h : F3 w q t x0 x1 x2) (v : Value) : F3 (w.setCell ⟨q, 2, none⟩ v) q t x0 x1 v := by unfold F3 at h ⊢; simp [World.setCell, Array.getElem?_modify, h]
end

structure MdOk (m : Pu.Md) : Prop where
  nk : m.kinds.length <= 100
  fn : ∀ f ∈ m.funcs, f.params.length <= 100 /\ f.results.length <= 100 /\ Low f.params /\ Low f.results
structure FnLow (m : Pu.Md) (f : Pu.Fn) : Prop where
  pl : ∀ k ∈ Fl.places f, 0 <= k /\ k <= m.kinds.length
  rs : Low f.results
  arg : ∀ i, i < f.code.length -> 0 <= (f.code.getD i (0, 0)).2 /\ (f.code.getD i (0, 0)).2 <= 255
  kinds : ∀ i, i < f.code.length -> (f.code.getD i (0, 0)).1 = 13 \/ (f.code.getD i (0, 0)).1 = 16 -> 0 <= (f.code.getD i (0, 0)).2 /\ (f.code.getD i (0, 0)).2 <= m.kinds.length
structure StOk (m : Pu.Md) (t : Fl.S) : Prop where
  len : t.stk.length <= 16
  full : t.full.length = 8
  kinds : ∀ k ∈ t.stk, 0 <= k /\ k <= m.kinds.length
theorem low0 : Low [0] := fun k hk => by simp only [List.mem_singleton] at hk; omega
theorem shape_low (m : Pu.Md) (x : Int × Int) (mo : MdOk m) (hx : x.1 = 13 \/ x.1 = 16 -> 0 <= x.2 /\ x.2 <= 100) : (shapeS m x).1.length <= 100 /\ (shapeS m x).2.1.length <= 100 /\ Low (shapeS m x).1 := by
  have hn : Low [] := fun k hk => by simp at hk
  unfold shapeS
  split
  · exact ⟨by simp, by simp, hn⟩
  split
  · exact ⟨by simp, by simp, fun k hk => by simp at hk; omega⟩
  split
  · exact ⟨by simp, by simp, hn⟩
  split
  · exact ⟨by simp, by simp, low0⟩
  split
  · exact ⟨by simp, by simp, low0⟩
  split
  · rename_i h
    have := hx (.inl h)
    exact ⟨by simp, by simp, fun k hk => by simp at hk; omega⟩
  split
  · by_cases hl : x.2.toNat < m.funcs.length
    · have hm : m.funcs.getD x.2.toNat ⟨[], [], [], []⟩ ∈ m.funcs := by rw [List.getD_eq_getElem?_getD, List.getElem?_eq_getElem hl]; exact List.getElem_mem hl
      have := mo.fn _ hm
      exact ⟨this.1, this.2.1, this.2.2.1⟩
    · rw [List.getD_eq_getElem?_getD, List.getElem?_eq_none (by omega)]
      exact ⟨by simp, by simp, hn⟩
  split
  · exact ⟨by simp, by simp, hn⟩
  split
  · rename_i h
    have := hx (.inr h)
    exact ⟨by simp, by simp, fun k hk => by simp at hk; omega⟩
  split
  · exact ⟨by simp, by simp, low0⟩
  · exact ⟨by simp, by simp, hn⟩
theorem spots_get (pl : List Int) (full : List Bool) (n : Nat) (h1 : n < pl.length) (h2 : n < full.length) (S : ByteArray) (hS : S = bs (spots pl full)) (h : n < S.size) : S[n]'h = spot (pl.getD n 0) (full.getD n false) := by
  subst hS
  simp only [bs, spots, ByteArray.getElem_eq_getElem_data, List.getElem_toArray, List.getElem_zipWith]
  rw [List.getD_eq_getElem?_getD, List.getD_eq_getElem?_getD, List.getElem?_eq_getElem h1, List.getElem?_eq_getElem h2]
  rfl
theorem str_get (l : List Int) (n : Nat) (h1 : n < l.length) (S : ByteArray) (hS : S = str l) (h : n < S.size) : S[n]'h = lt (l.getD n 0) := by
  subst hS
  simp only [str, ByteArray.getElem_eq_getElem_data, List.getElem_toArray, List.getElem_map]
  rw [List.getD_eq_getElem?_getD, List.getElem?_eq_getElem h1]
  rfl
theorem str_one (l : List Int) (n : Nat) (h1 : n < l.length) (S : ByteArray) (hS : S = str l) : S.extract n (n + 1) = str [l.getD n 0] := by
  rw [hS, str_extract, List.take_succ_eq_append_getElem h1, List.drop_append_of_le_length (by simp; omega), List.drop_of_length_le (by rw [List.length_take]; omega), List.nil_append, List.getD_eq_getElem?_getD, List.getElem?_eq_getElem h1]
  rfl
structure AB (w wr : World) (m : Pu.Md) (f : Pu.Fn) (qm qf qp qr qx : Nat) (kv vv : Value) (x : FV) (a : Nat) (SS SP : ByteArray) (op arg : Int) : Prop where
  mb : F2 wr qm 38 kv vv
  fb : F4 wr qf 62 x.p x.r x.l x.c
  pb : F3 wr qp 158 (.int .i64 a) (.string SS) (.string SP)
  rb : F3 wr qr 158 (.int .i64 0) (.string ⟨#[]⟩) (.string ⟨#[]⟩)
  xb : F2 wr qx 56 (.int .i64 op) (.int .i64 arg)
  hm : MdR wr wr.heap.size kv vv m
  hf : FnR wr wr.heap.size x f
  bl : Below w.heap.size w wr
theorem AB.below {w wr w' : World} {m : Pu.Md} {f : Pu.Fn} {qm qf qp qr qx : Nat} {kv vv : Value} {x : FV} {a : Nat} {SS SP : ByteArray} {op arg : Int} (h : AB w wr m f qm qf qp qr qx kv vv x a SS SP op arg) (hb : Below wr.heap.size wr w') : AB w w' m f qm qf qp qr qx kv vv x a SS SP op arg :=
  ⟨(hb.block _ h.mb.lt).trans h.mb, (hb.block _ h.fb.lt).trans h.fb, (hb.block _ h.pb.lt).trans h.pb, (hb.block _ h.rb.lt).trans h.rb, (hb.block _ h.xb.lt).trans h.xb, (h.hm.below hb).wide hb.size, (h.hf.below hb).wide hb.size, h.bl.trans (hb.mono h.bl.size)⟩
theorem AB.res {w wr : World} {m : Pu.Md} {f : Pu.Fn} {qm qf qp qr qx : Nat} {kv vv : Value} {x : FV} {a : Nat} {SS SP : ByteArray} {op arg : Int} (h : AB w wr m f qm qf qp qr qx kv vv x a SS SP op arg) (hq : w.heap.size <= qr) (s1 s2 : ByteArray) :
    F3 (((wr.setCell ⟨qr, 0, none⟩ (.int .i64 a)).setCell ⟨qr, 1, none⟩ (.string s1)).setCell ⟨qr, 2, none⟩ (.string s2)) qr 158 (.int .i64 a) (.string s1) (.string s2) /\ Below w.heap.size w (((wr.setCell ⟨qr, 0, none⟩ (.int .i64 a)).setCell ⟨qr, 1, none⟩ (.string s1)).setCell ⟨qr, 2, none⟩ (.string s2)) :=
  ⟨((h.rb.set0 _).set1 _).set2 _, ((h.bl.setCell (p := ⟨qr, 0, none⟩) hq _).setCell (p := ⟨qr, 1, none⟩) hq _).setCell (p := ⟨qr, 2, none⟩) hq _⟩
theorem after_no {w w' : World} {m : Pu.Md} {f : Pu.Fn} {a : Nat} {x : Int × Int} {t : Fl.S} {s1 s2 : ByteArray} (hn : Fl.after m f x t = none) (hb : Below w.heap.size w w') : AfterOut w w' m f a x t (.returned (.tuple #[.agg #[.int .i64 a, .string s1, .string s2], .bool false])) :=
  ⟨false, _, rfl, by simp [hn], fun t' h => by rw [hn] at h; simp at h, ⟨_, _, _, rfl⟩, hb⟩
theorem after_fin {w w' : World} {m : Pu.Md} {f : Pu.Fn} {a : Nat} {x : Int × Int} {t : Fl.S} {T P : List Int} {full : List Bool} (hf : Fl.after m f x t = finS T P full t) (hs : T.length <= t.stk.length /\ t.stk.drop (t.stk.length - T.length) = T) (hb : Below w.heap.size w w') :
    AfterOut w w' m f a x t (.returned (.tuple #[.agg #[.int .i64 a, .string (str (t.stk.take (t.stk.length - T.length) ++ P)), .string (bs (spots (Fl.places f) full))], .bool (decide (t.stk.length - T.length + P.length <= 16))])) := by
  refine ⟨_, _, rfl, ?_, fun t' h _ => ?_, ⟨_, _, _, rfl⟩, hb⟩
  · rw [hf]
    unfold finS
    by_cases h16 : t.stk.length - T.length + P.length <= 16
    · rw [if_pos ⟨hs, h16⟩]; simp [h16]
    · rw [if_neg (fun h => h16 h.2)]; simp [h16]
  · rw [hf] at h
    unfold finS at h
    split at h
    · cases h; rfl
    · simp at h
set_option maxRecDepth 100000 in
set_option maxHeartbeats 4000000 in
theorem rafterD_any (m : Pu.Md) (f : Pu.Fn) (a : Nat) (t : Fl.S) (mk mv : Value) (x : FV) (w : World) (hm : MdR w w.heap.size mk mv m) (hf : FnR w w.heap.size x f) (mo : MdOk m) (fo : FnOk m f) (fl : FnLow m f) (so : StOk m t) (ha : a < f.code.length) (hpl : (f.code.getD a (0, 0)).1 ≠ 0 /\ (f.code.getD a (0, 0)).1 ≠ 8 /\ (f.code.getD a (0, 0)).1 ≠ 9 /\ (f.code.getD a (0, 0)).1 ≠ 10 /\ (f.code.getD a (0, 0)).1 ≠ 11) :
    Calls Tryz.prog 74 #[.agg #[mk, mv], .agg #[x.p, x.r, x.l, x.c], PV a f t] w fun e w' => AfterOut w w' m f a (f.code.getD a (0, 0)) t e := by
  obtain ⟨a1, c1, rfl⟩ := hm.k.shape
  obtain ⟨a2, c2, rfl⟩ := hm.v.shape
  obtain ⟨x1, y1, x2, y2, x3, y3, x4, y4, rfl⟩ := hf.shape
  have hlp : Low (Fl.places f) := fun k hk => by have := fl.pl k hk; have := mo.nk; omega
  have hls : Low t.stk := fun k hk => by have := so.kinds k hk; have := mo.nk; omega
  have hop := fo.op a ha
  have harg := fl.arg a ha
  have hkd := fl.kinds a ha
  have hcl := hf.nc
  unfold maxLen at hcl
  obtain ⟨ac, cc', bc, oc, hcv, h1, h2⟩ := hf.c
  simp only [Value.slice.injEq, true_and] at hcv
  obtain ⟨rfl, rfl⟩ := hcv
  obtain ⟨rfl, hbB⟩ := h1 (by omega)
  obtain ⟨k0, k1⟩ := h2 a ha
  clear h1 h2
  obtain ⟨SS, hSS⟩ : ∃ SS, SS = str t.stk := ⟨_, rfl⟩
  obtain ⟨SP, hSP⟩ : ∃ SP, SP = bs (spots (Fl.places f) t.full) := ⟨_, rfl⟩
  unfold PV
  rw [<- hSS, <- hSP]
  have HSS := hid hSS
  have HSP := hid hSP
  clear hSS hSP
  obtain ⟨W0, hW0⟩ : ∃ W0, W0 = (((w.alloc (.cells #[.slice a1 m.kinds.length c1, .slice a2 m.funcs.length c2] 38)).alloc (.cells #[.slice x1 f.params.length y1, .slice x2 f.results.length y2, .slice x3 f.locals.length y3, .slice (some ⟨bc, oc, none⟩) f.code.length y4] 62)).alloc (.cells #[.int .i64 a, .string SS, .string SP] 158)).alloc (.cells #[.int .i64 0, .string ⟨#[]⟩, .string ⟨#[]⟩] 158) := ⟨_, rfl⟩
  have bl0 : Below w.heap.size w W0 := by rw [hW0]; exact ((((Below.refl w.heap.size w).alloc (Nat.le_refl _) _).alloc (by simp) _).alloc (by simp; omega) _).alloc (by simp; omega) _
  have sz0 : W0.heap.size = w.heap.size + 4 := by rw [hW0]; simp
  have mb0 : F2 W0 w.heap.size 38 (.slice a1 m.kinds.length c1) (.slice a2 m.funcs.length c2) := by
    rw [hW0]
    exact F2.kept (F2.kept (heap_alloc2_old w _ _) (World.grownBy_alloc _ _ none) (by simp)) (World.grownBy_alloc _ _ none) (by simp)
  have fb0 : F4 W0 (w.heap.size + 1) 62 (.slice x1 f.params.length y1) (.slice x2 f.results.length y2) (.slice x3 f.locals.length y3) (.slice (some ⟨bc, oc, none⟩) f.code.length y4) := by
    rw [hW0]
    exact F4.kept (F4.kept (heap_alloc2_new w _ _) (World.grownBy_alloc _ _ none) (by simp)) (World.grownBy_alloc _ _ none) (by simp)
  have pb0 : F3 W0 (w.heap.size + 2) 158 (.int .i64 a) (.string SS) (.string SP) := by
    have h := heap_alloc2_old ((w.alloc (.cells #[.slice a1 m.kinds.length c1, .slice a2 m.funcs.length c2] 38)).alloc (.cells #[.slice x1 f.params.length y1, .slice x2 f.results.length y2, .slice x3 f.locals.length y3, .slice (some ⟨bc, oc, none⟩) f.code.length y4] 62)) (.cells #[.int .i64 a, .string SS, .string SP] 158) (.cells #[.int .i64 0, .string ⟨#[]⟩, .string ⟨#[]⟩] 158)
    simp only [World.size_alloc] at h
    rw [hW0]
    exact h
  have rb0 : F3 W0 (w.heap.size + 3) 158 (.int .i64 0) (.string ⟨#[]⟩) (.string ⟨#[]⟩) := by
    have h := heap_alloc2_new ((w.alloc (.cells #[.slice a1 m.kinds.length c1, .slice a2 m.funcs.length c2] 38)).alloc (.cells #[.slice x1 f.params.length y1, .slice x2 f.results.length y2, .slice x3 f.locals.length y3, .slice (some ⟨bc, oc, none⟩) f.code.length y4] 62)) (.cells #[.int .i64 a, .string SS, .string SP] 158) (.cells #[.int .i64 0, .string ⟨#[]⟩, .string ⟨#[]⟩] 158)
    simp only [World.size_alloc] at h
    rw [hW0]
    exact h
  have e0 := (bl0.cell (p := ⟨bc, oc + a * 2, none⟩) hbB).trans k0
  have e1 := (bl0.cell (p := ⟨bc, oc + a * 2 + 1, none⟩) hbB).trans k1
  have HM := hid ((hm.below bl0).wide bl0.size)
  have HF := hid ((hf.below bl0).wide bl0.size)
  have HE := hid hW0
  rw [hW0] at e0 e1
  generalize f.code.getD a (0, 0) = xx at *
  obtain ⟨op, arg⟩ := xx
  simp only at e0 e1 hop harg hkd hpl
  simp only
  clear k0 k1 hW0 hm hf
  go_enter Tryz.func74, Tryz.ntmps74
  go_wp2_with fail
  rw [<- HE.out]
  have bA := (Below.refl W0.heap.size W0).alloc (Nat.le_refl _) (.cells #[.int .i64 op, .int .i64 arg] 56)
  have A0 : AB w (W0.alloc (.cells #[.int .i64 op, .int .i64 arg] 56)) m f w.heap.size (w.heap.size + 1) (w.heap.size + 1 + 1) (w.heap.size + 1 + 1 + 1) (w.heap.size + 1 + 1 + 1 + 1) _ _ ⟨.slice x1 f.params.length y1, .slice x2 f.results.length y2, .slice x3 f.locals.length y3, .slice (some ⟨bc, oc, none⟩) f.code.length y4⟩ a SS SP op arg :=
    ⟨(bA.block _ mb0.lt).trans mb0, (bA.block _ fb0.lt).trans fb0, (bA.block _ pb0.lt).trans pb0, (bA.block _ rb0.lt).trans rb0, by have h := heap_alloc_new W0 (.cells #[.int .i64 op, .int .i64 arg] 56); rw [sz0] at h; exact h, (HM.out.below bA).wide bA.size, (HF.out.below bA).wide bA.size, bl0.trans (bA.mono bl0.size)⟩
  clear HE HM HF mb0 fb0 pb0 rb0 bA sz0 bl0 e0 e1 hbB
  generalize w.heap.size + 1 + 1 + 1 + 1 = qx at A0 ⊢
  have hqr : w.heap.size <= w.heap.size + 1 + 1 + 1 := by omega
  generalize w.heap.size + 1 + 1 + 1 = qr at A0 hqr ⊢
  generalize w.heap.size + 1 + 1 = qp at A0 ⊢
  generalize w.heap.size + 1 = qf at A0 ⊢
  generalize W0.alloc (.cells #[.int .i64 op, .int .i64 arg] 56) = W1 at A0 ⊢
  refine (rshape_any m _ _ op arg W1 A0.hm hop.1 harg (fun h => by have := hop.2.2 h; omega) mo.fn).mono ?_
  rintro e w2 ⟨rfl, hb2⟩
  have A2 := A0.below hb2
  clear A0 hb2
  have p0 := A2.pb.c0
  have p1 := A2.pb.c1
  have p2 := A2.pb.c2
  have f0 := A2.fb.c0
  have f1 := A2.fb.c1
  have f2 := A2.fb.c2
  have f3 := A2.fb.c3
  simp only at f0 f1 f2 f3
  obtain ⟨TK, hTK⟩ : ∃ TK, TK = str (shapeS m (op, arg)).1 := ⟨_, rfl⟩
  obtain ⟨PU, hPU⟩ : ∃ PU, PU = str (shapeS m (op, arg)).2.1 := ⟨_, rfl⟩
  obtain ⟨PL, hPL⟩ : ∃ PL, PL = (shapeS m (op, arg)).2.2 := ⟨_, rfl⟩
  rw [<- hTK, <- hPU, <- hPL]
  have HTK := hid hTK
  have HPU := hid hPU
  have HPL := hid hPL
  clear hTK hPU hPL
  go_wp2_with fail
  refine (rplaces_any f _ w2 A2.hf fo.np hlp).mono ?_
  rintro e w3 ⟨rfl, hb3⟩
  have A3 := A2.below hb3
  clear A2 hb3 p0 p1 p2 f0 f1 f2 f3
  have x0 := A3.xb.c0
  have x1' := A3.xb.c1
  have p0 := A3.pb.c0
  have p1 := A3.pb.c1
  have p2 := A3.pb.c2
  have hSl : SS.size = t.stk.length := by rw [HSS.out, str_size]
  obtain ⟨AL, hAL⟩ : ∃ AL, AL = str (Fl.places f) := ⟨_, rfl⟩
  rw [<- hAL]
  have HAL := hid hAL
  clear hAL
  obtain ⟨n0, n8, n9, n10, n11⟩ := hpl
  have r0 : (op == 0) = false := by simpa using n0
  have r8 : (op == 8) = false := by simpa using n8
  have r9 : (op == 9) = false := by simpa using n9
  have r10 : (op == 10) = false := by simpa using n10
  have r11 : (op == 11) = false := by simpa using n11
  obtain ⟨hpt, haf⟩ := after_shape m f op arg t so.len hop.1 n0 n8 n9 n10 n11
  rw [<- HPL.out] at hpt
  subst hpt
  obtain ⟨TL, hTL⟩ : ∃ TL, TL = (shapeS m (op, arg)).1 := ⟨_, rfl⟩
  obtain ⟨PP, hPP⟩ : ∃ PP, PP = (shapeS m (op, arg)).2.1 := ⟨_, rfl⟩
  have hsl := shape_low m (op, arg) mo (fun h => by have := hkd h; have := mo.nk; omega)
  rw [<- hTL, <- hPP] at hsl haf
  have eTK : TK = str TL := by rw [HTK.out, hTL]
  have ePU : PU = str PP := by rw [HPU.out, hPP]
  subst eTK ePU
  have HAF := hid haf
  clear haf hTL hPP HTK HPU HPL
  go_wp2_with fail
  rw [HSS.out]
  have hlT := hsl.2.2
  have hP100 := hsl.2.1
  have hT100 := hsl.1
  refine (rends_any t.stk TL w3 (by have := so.len; omega) (by omega) hls hlT).mono ?_
  rintro e w4 ⟨rfl, rfl⟩
  have q0 := A3.rb.c0
  have q1 := A3.rb.c1
  have q2 := A3.rb.c2
  have z0 := A3.rb.fz 0
  have z1 := A3.rb.fz 1
  have z2 := A3.rb.fz 2
  cases hr : decide (TL.length <= t.stk.length /\ t.stk.drop (t.stk.length - TL.length) = TL) with
  | false =>
    have hnone : Fl.after m f (op, arg) t = none := by
      rw [HAF.out]
      unfold finS
      rw [if_neg (fun h => by simp [h.1] at hr)]
    obtain ⟨rf, rbl⟩ := A3.res hqr SS SP
    have FIN := hid (after_no (a := a) (s1 := SS) (s2 := SP) hnone rbl)
    have y0 := rf.c0
    have y1 := rf.c1
    have y2 := rf.c2
    clear HAF hr hnone rf rbl
    go_wp2
    refine bodyPost_ret (v := .tuple #[.agg #[.int .i64 a, .string SS, .string SP], .bool false]) (by simp [results, Tryz.results74, go_sem, y0, y1, y2]) rfl FIN.out
  | true =>
    have hsx := of_decide_eq_true hr
    have ex : SS.extract 0 (t.stk.length - TL.length) = str (t.stk.take (t.stk.length - TL.length)) := by rw [HSS.out, str_extract]; rfl
    have es : (str (t.stk.take (t.stk.length - TL.length))).size = t.stk.length - TL.length := by rw [str_size, List.length_take]; omega
    have HAP : Hid (str (t.stk.take (t.stk.length - TL.length)) ++ str PP = str (t.stk.take (t.stk.length - TL.length) ++ PP)) := str_append _ _
    obtain ⟨rf, rbl⟩ := A3.res hqr (str (t.stk.take (t.stk.length - TL.length)) ++ str PP) SP
    have FIN := after_fin (a := a) HAF.out hsx rbl
    rw [<- HAP.out, <- HSP.out] at FIN
    have FIN := hid FIN
    have hpz := str_size PP
    have htz := str_size TL
    have nsub : ((t.stk.length : Int) - (TL.length : Int)).toNat = t.stk.length - TL.length := by omega
    have hsl16 := so.len
    obtain ⟨hsx1, _⟩ := hsx
    have y0 := rf.c0
    have y1 := rf.c1
    have y2 := rf.c2
    clear HAF hr rf rbl HAP
    generalize str (t.stk.take (t.stk.length - TL.length)) = X1 at *
    generalize str PP = X2 at *
    have t1 : (9223372036854775807 < t.stk.length - TL.length + PP.length) = False := by simp; omega
    have HB : Hid (decide (((t.stk.length - TL.length : Nat) : Int) + (PP.length : Int) <= 16) = decide (t.stk.length - TL.length + PP.length <= 16)) := decide_eq_decide.2 (by omega)
    generalize decide (t.stk.length - TL.length + PP.length <= 16) = BB at *
    go_wp2
    refine bodyPost_ret (v := .tuple #[.agg #[.int .i64 a, .string (X1 ++ X2), .string SP], .bool BB]) (by simp [results, Tryz.results74, go_sem, y0, y1, y2, HB.out]) rfl FIN.out
end Go.Proofs.YtjamgmbdilkbcaaGreat

/- The document's after: Copy. -/
namespace Go.Proofs.YtjamgmbdilkbcaaGreat
open Go.RowKit

set_option maxRecDepth 100000 in
set_option maxHeartbeats 4000000 in
theorem rafter8_any (m : Pu.Md) (f : Pu.Fn) (a : Nat) (t : Fl.S) (mk mv : Value) (x : FV) (w : World) (hm : MdR w w.heap.size mk mv m) (hf : FnR w w.heap.size x f) (mo : MdOk m) (fo : FnOk m f) (fl : FnLow m f) (so : StOk m t) (ha : a < f.code.length) (hpl : (f.code.getD a (0, 0)).1 = 8) :
    Calls Tryz.prog 74 #[.agg #[mk, mv], .agg #[x.p, x.r, x.l, x.c], PV a f t] w fun e w' => AfterOut w w' m f a (f.code.getD a (0, 0)) t e := by
  obtain ⟨a1, c1, rfl⟩ := hm.k.shape
  obtain ⟨a2, c2, rfl⟩ := hm.v.shape
  obtain ⟨x1, y1, x2, y2, x3, y3, x4, y4, rfl⟩ := hf.shape
  have hlp : Low (Fl.places f) := fun k hk => by have := fl.pl k hk; have := mo.nk; omega
  have hls : Low t.stk := fun k hk => by have := so.kinds k hk; have := mo.nk; omega
  have hop := fo.op a ha
  have harg := fl.arg a ha
  have hkd := fl.kinds a ha
  have hcl := hf.nc
  unfold maxLen at hcl
  obtain ⟨ac, cc', bc, oc, hcv, h1, h2⟩ := hf.c
  simp only [Value.slice.injEq, true_and] at hcv
  obtain ⟨rfl, rfl⟩ := hcv
  obtain ⟨rfl, hbB⟩ := h1 (by omega)
  obtain ⟨k0, k1⟩ := h2 a ha
  clear h1 h2
  obtain ⟨SS, hSS⟩ : ∃ SS, SS = str t.stk := ⟨_, rfl⟩
  obtain ⟨SP, hSP⟩ : ∃ SP, SP = bs (spots (Fl.places f) t.full) := ⟨_, rfl⟩
  unfold PV
  rw [<- hSS, <- hSP]
  have HSS := hid hSS
  have HSP := hid hSP
  clear hSS hSP
  obtain ⟨W0, hW0⟩ : ∃ W0, W0 = (((w.alloc (.cells #[.slice a1 m.kinds.length c1, .slice a2 m.funcs.length c2] 38)).alloc (.cells #[.slice x1 f.params.length y1, .slice x2 f.results.length y2, .slice x3 f.locals.length y3, .slice (some ⟨bc, oc, none⟩) f.code.length y4] 62)).alloc (.cells #[.int .i64 a, .string SS, .string SP] 158)).alloc (.cells #[.int .i64 0, .string ⟨#[]⟩, .string ⟨#[]⟩] 158) := ⟨_, rfl⟩
  have bl0 : Below w.heap.size w W0 := by rw [hW0]; exact ((((Below.refl w.heap.size w).alloc (Nat.le_refl _) _).alloc (by simp) _).alloc (by simp; omega) _).alloc (by simp; omega) _
  have sz0 : W0.heap.size = w.heap.size + 4 := by rw [hW0]; simp
  have mb0 : F2 W0 w.heap.size 38 (.slice a1 m.kinds.length c1) (.slice a2 m.funcs.length c2) := by
    rw [hW0]
    exact F2.kept (F2.kept (heap_alloc2_old w _ _) (World.grownBy_alloc _ _ none) (by simp)) (World.grownBy_alloc _ _ none) (by simp)
  have fb0 : F4 W0 (w.heap.size + 1) 62 (.slice x1 f.params.length y1) (.slice x2 f.results.length y2) (.slice x3 f.locals.length y3) (.slice (some ⟨bc, oc, none⟩) f.code.length y4) := by
    rw [hW0]
    exact F4.kept (F4.kept (heap_alloc2_new w _ _) (World.grownBy_alloc _ _ none) (by simp)) (World.grownBy_alloc _ _ none) (by simp)
  have pb0 : F3 W0 (w.heap.size + 2) 158 (.int .i64 a) (.string SS) (.string SP) := by
    have h := heap_alloc2_old ((w.alloc (.cells #[.slice a1 m.kinds.length c1, .slice a2 m.funcs.length c2] 38)).alloc (.cells #[.slice x1 f.params.length y1, .slice x2 f.results.length y2, .slice x3 f.locals.length y3, .slice (some ⟨bc, oc, none⟩) f.code.length y4] 62)) (.cells #[.int .i64 a, .string SS, .string SP] 158) (.cells #[.int .i64 0, .string ⟨#[]⟩, .string ⟨#[]⟩] 158)
    simp only [World.size_alloc] at h
    rw [hW0]
    exact h
  have rb0 : F3 W0 (w.heap.size + 3) 158 (.int .i64 0) (.string ⟨#[]⟩) (.string ⟨#[]⟩) := by
    have h := heap_alloc2_new ((w.alloc (.cells #[.slice a1 m.kinds.length c1, .slice a2 m.funcs.length c2] 38)).alloc (.cells #[.slice x1 f.params.length y1, .slice x2 f.results.length y2, .slice x3 f.locals.length y3, .slice (some ⟨bc, oc, none⟩) f.code.length y4] 62)) (.cells #[.int .i64 a, .string SS, .string SP] 158) (.cells #[.int .i64 0, .string ⟨#[]⟩, .string ⟨#[]⟩] 158)
    simp only [World.size_alloc] at h
    rw [hW0]
    exact h
  have e0 := (bl0.cell (p := ⟨bc, oc + a * 2, none⟩) hbB).trans k0
  have e1 := (bl0.cell (p := ⟨bc, oc + a * 2 + 1, none⟩) hbB).trans k1
  have HM := hid ((hm.below bl0).wide bl0.size)
  have HF := hid ((hf.below bl0).wide bl0.size)
  have HE := hid hW0
  rw [hW0] at e0 e1
  generalize f.code.getD a (0, 0) = xx at *
  obtain ⟨op, arg⟩ := xx
  simp only at e0 e1 hop harg hkd hpl
  have HOP := hid hpl
  clear hpl
  simp only
  clear k0 k1 hW0 hm hf
  go_enter Tryz.func74, Tryz.ntmps74
  go_wp2_with fail
  rw [<- HE.out]
  have bA := (Below.refl W0.heap.size W0).alloc (Nat.le_refl _) (.cells #[.int .i64 op, .int .i64 arg] 56)
  have A0 : AB w (W0.alloc (.cells #[.int .i64 op, .int .i64 arg] 56)) m f w.heap.size (w.heap.size + 1) (w.heap.size + 1 + 1) (w.heap.size + 1 + 1 + 1) (w.heap.size + 1 + 1 + 1 + 1) _ _ ⟨.slice x1 f.params.length y1, .slice x2 f.results.length y2, .slice x3 f.locals.length y3, .slice (some ⟨bc, oc, none⟩) f.code.length y4⟩ a SS SP op arg :=
    ⟨(bA.block _ mb0.lt).trans mb0, (bA.block _ fb0.lt).trans fb0, (bA.block _ pb0.lt).trans pb0, (bA.block _ rb0.lt).trans rb0, by have h := heap_alloc_new W0 (.cells #[.int .i64 op, .int .i64 arg] 56); rw [sz0] at h; exact h, (HM.out.below bA).wide bA.size, (HF.out.below bA).wide bA.size, bl0.trans (bA.mono bl0.size)⟩
  clear HE HM HF mb0 fb0 pb0 rb0 bA sz0 bl0 e0 e1 hbB
  generalize w.heap.size + 1 + 1 + 1 + 1 = qx at A0 ⊢
  have hqr : w.heap.size <= w.heap.size + 1 + 1 + 1 := by omega
  generalize w.heap.size + 1 + 1 + 1 = qr at A0 hqr ⊢
  generalize w.heap.size + 1 + 1 = qp at A0 ⊢
  generalize w.heap.size + 1 = qf at A0 ⊢
  generalize W0.alloc (.cells #[.int .i64 op, .int .i64 arg] 56) = W1 at A0 ⊢
  refine (rshape_any m _ _ op arg W1 A0.hm hop.1 harg (fun h => by have := hop.2.2 h; omega) mo.fn).mono ?_
  rintro e w2 ⟨rfl, hb2⟩
  have A2 := A0.below hb2
  clear A0 hb2
  have p0 := A2.pb.c0
  have p1 := A2.pb.c1
  have p2 := A2.pb.c2
  have f0 := A2.fb.c0
  have f1 := A2.fb.c1
  have f2 := A2.fb.c2
  have f3 := A2.fb.c3
  simp only at f0 f1 f2 f3
  obtain ⟨TK, hTK⟩ : ∃ TK, TK = str (shapeS m (op, arg)).1 := ⟨_, rfl⟩
  obtain ⟨PU, hPU⟩ : ∃ PU, PU = str (shapeS m (op, arg)).2.1 := ⟨_, rfl⟩
  obtain ⟨PL, hPL⟩ : ∃ PL, PL = (shapeS m (op, arg)).2.2 := ⟨_, rfl⟩
  rw [<- hTK, <- hPU, <- hPL]
  have HTK := hid hTK
  have HPU := hid hPU
  have HPL := hid hPL
  clear hTK hPU hPL
  go_wp2_with fail
  refine (rplaces_any f _ w2 A2.hf fo.np hlp).mono ?_
  rintro e w3 ⟨rfl, hb3⟩
  have A3 := A2.below hb3
  clear A2 hb3 p0 p1 p2 f0 f1 f2 f3
  have x0 := A3.xb.c0
  have x1' := A3.xb.c1
  have p0 := A3.pb.c0
  have p1 := A3.pb.c1
  have p2 := A3.pb.c2
  have hSl : SS.size = t.stk.length := by rw [HSS.out, str_size]
  obtain ⟨AL, hAL⟩ : ∃ AL, AL = str (Fl.places f) := ⟨_, rfl⟩
  rw [<- hAL]
  have HAL := hid hAL
  clear hAL
  have hpl := HOP.out
  subst hpl
  clear HOP
  have hs0 : shapeS m (8, arg) = ([], [], false) := by simp [shapeS]
  have eTK : TK = ⟨#[]⟩ := by rw [HTK.out, hs0]; rfl
  have ePU : PU = ⟨#[]⟩ := by rw [HPU.out, hs0]; rfl
  have ePL : PL = false := by rw [HPL.out, hs0]
  subst eTK ePU ePL
  have hspl : SP.size = (Fl.places f).length := by rw [HSP.out, bs_size]; unfold spots; rw [List.length_zipWith, so.full]; have := fo.np; omega
  have hall : AL.size = (Fl.places f).length := by rw [HAL.out, str_size]
  have hnp := fo.np
  clear HTK HPU HPL hs0
  have m0 := A3.mb.c0
  have m1 := A3.mb.c1
  have lqm := A3.mb.lt
  have lqx := A3.xb.lt
  have hn0 : Low [] := fun k hk => by simp at hk
  obtain ⟨h1, h2⟩ := hop.2.1 (.inl rfl)
  obtain ⟨n, rfl⟩ : ∃ n : Nat, arg = n := ⟨arg.toNat, by omega⟩
  have hn : n < (Fl.places f).length := by omega
  have hnS : n < SP.size := by omega
  have hnA : n < AL.size := by omega
  have hk6 := fl.pl ((Fl.places f).getD n 0) (by rw [List.getD_eq_getElem?_getD, List.getElem?_eq_getElem hn]; exact List.getElem_mem hn)
  have hnk := mo.nk
  have isp : SP[n]'hnS = spot ((Fl.places f).getD n 0) (t.full.getD n false) := spots_get _ _ n hn (by rw [so.full]; omega) SP HSP.out hnS
  have ial : AL[n]'hnA = lt ((Fl.places f).getD n 0) := str_get _ n hn AL HAL.out hnA
  have exA : AL.extract n (n + 1) = str [(Fl.places f).getD n 0] := str_one _ n hn AL HAL.out
  have nw : IntKind.i64.wrap ((n : Int) + 1) = (n : Int) + 1 := IntWalk.i64_in _ (by omega)
  have HAF0 := hid (after_dup m f n t so.len)
  obtain ⟨EX, hEX⟩ : ∃ EX, EX = str [(Fl.places f).getD n 0] := ⟨_, rfl⟩
  rw [<- hEX] at exA
  have HEY := hid hEX
  clear hEX
  generalize (Fl.places f).getD n 0 = kk at *
  cases hbit : t.full.getD n false with
  | false =>
    rw [hbit] at isp HAF0
    have hnone : Fl.after m f (8, (n : Int)) t = none := by rw [HAF0.out]; simp
    have vsp : ((SP[n]'hnS).toNat : Int) = 45 := by rw [isp]; rfl
    clear HAF0 isp ial
    go_wp2_with fail
    go_quiet (fail)
    have A4 := A3.below (below_drewN (Below.refl _ _) nq)
    clear A3 p0 p1 p2 x0 x1' m0 m1 lqm lqx
    have p1 := A4.pb.c1
    generalize w3.drewN nq = w5 at *
    go_wp2_with fail
    rw [HSS.out]
    refine (rends_any t.stk ([] : List Int) w5 (by have := so.len; omega) (by simp) hls hn0).mono ?_
    rintro e w9 ⟨rfl, rfl⟩
    have q0 := A4.rb.c0
    have q1 := A4.rb.c1
    have q2 := A4.rb.c2
    have z0 := A4.rb.fz 0
    have z1 := A4.rb.fz 1
    have z2 := A4.rb.fz 2
    have o0 := A4.pb.c0
    have o1 := A4.pb.c1
    have o2 := A4.pb.c2
    obtain ⟨rf, rbl⟩ := A4.res hqr SS SP
    have FIN := hid (after_no (a := a) (s1 := SS) (s2 := SP) hnone rbl)
    have j0 := rf.c0
    have j1 := rf.c1
    have j2 := rf.c2
    clear rf rbl
    generalize decide (([] : List Int).length <= t.stk.length /\ t.stk.drop (t.stk.length - ([] : List Int).length) = ([] : List Int)) = RR
    cases RR
    all_goals
      go_wp2
      refine bodyPost_ret (v := .tuple #[.agg #[.int .i64 a, .string SS, .string SP], .bool false]) (by simp [results, Tryz.results74, go_sem, j0, j1, j2]) rfl FIN.out
  | true =>
    rw [hbit] at isp HAF0
    have vsp : ((SP[n]'hnS).toNat : Int) = 48 + kk := by rw [isp]; exact lt_val kk (by omega)
    have val : ((AL[n]'hnA).toNat : Int) = 48 + kk := by rw [ial]; exact lt_val kk (by omega)
    have hne : ¬ (48 + kk = 45) := by omega
    have hne2 : (48 + kk == 45) = false := by simpa using hne
    have hne3 : (48 + kk != 45) = true := by simpa using hne
    have hMM : MdR w3.drew w3.drew.heap.size _ _ m := (A3.below ((Below.refl _ _).drew)).hm
    have D1 : Calls Tryz.prog 99 #[.agg #[.slice a1 m.kinds.length c1, .slice a2 m.funcs.length c2], .int .i64 (IntKind.i64.wrap (IntKind.u8.wrap (48 + kk - 48))), .int .i64 1] w3.drew fun e w' => e = .returned (.bool (Fl.may m kk 1)) /\ Below w3.drew.heap.size w3.drew w' := by
      rw [show 48 + kk - 48 = kk from by omega, IntWalk.u8_in kk (by omega), IntWalk.i64_in kk (by omega)]
      exact rmay_any m _ _ kk 1 _ hMM hk6
    have D1 := hid D1
    clear isp ial
    go_wp2_with fail
    go_region_held3 (fun w' => w'.cell? ⟨qx, 1, none⟩ = some (.int .i64 n) /\ w'.cell? ⟨w.heap.size, 0, none⟩ = some (.slice a1 m.kinds.length c1) /\ w'.cell? ⟨w.heap.size, 1, none⟩ = some (.slice a2 m.funcs.length c2))
      (first | exact ⟨x1', m0, m1⟩ | exact ⟨(hb4.cell (p := ⟨qx, 1, none⟩) lqx).trans x1', (hb4.cell (p := ⟨w.heap.size, 0, none⟩) lqm).trans m0, (hb4.cell (p := ⟨w.heap.size, 1, none⟩) lqm).trans m1⟩)
      ((go_at_call 99; with_reducible refine D1.out.mono ?_; rintro e w5 ⟨rfl, hb4⟩))
    have A4 := A3.below (((Below.refl _ _).drew).trans hb4)
    clear A3 p0 p1 p2 x0 x1' m0 m1 lqm lqx hb4 D1 hMM
    have p1 := A4.pb.c1
    cases hmm : Fl.may m kk 1 with
    | false =>
      rw [hmm] at HAF0
      have hnone : Fl.after m f (8, (n : Int)) t = none := by rw [HAF0.out]; simp
      clear HAF0
      go_wp2_with fail
      rw [HSS.out]
      refine (rends_any t.stk ([] : List Int) w5 (by have := so.len; omega) (by simp) hls hn0).mono ?_
      rintro e w9 ⟨rfl, rfl⟩
      have q0 := A4.rb.c0
      have q1 := A4.rb.c1
      have q2 := A4.rb.c2
      have z0 := A4.rb.fz 0
      have z1 := A4.rb.fz 1
      have z2 := A4.rb.fz 2
      have o0 := A4.pb.c0
      have o1 := A4.pb.c1
      have o2 := A4.pb.c2
      obtain ⟨rf, rbl⟩ := A4.res hqr SS SP
      have FIN := hid (after_no (a := a) (s1 := SS) (s2 := SP) hnone rbl)
      have j0 := rf.c0
      have j1 := rf.c1
      have j2 := rf.c2
      clear rf rbl
      generalize decide (([] : List Int).length <= t.stk.length /\ t.stk.drop (t.stk.length - ([] : List Int).length) = ([] : List Int)) = RR
      cases RR
      all_goals
        go_wp2
        refine bodyPost_ret (v := .tuple #[.agg #[.int .i64 a, .string SS, .string SP], .bool false]) (by simp [results, Tryz.results74, go_sem, j0, j1, j2]) rfl FIN.out
    | true =>
      rw [hmm] at HAF0
      have HAF : Hid (Fl.after m f (8, (n : Int)) t = finS [] [kk] t.full t) := by show _ = _; rw [HAF0.out]; simp
      clear HAF0
      go_wp2_with fail
      rw [HSS.out]
      refine (rends_any t.stk [] w5 (by have := so.len; omega) (by simp) hls hn0).mono ?_
      rintro e w9 ⟨rfl, rfl⟩
      rw [show decide (([] : List Int).length <= t.stk.length /\ t.stk.drop (t.stk.length - ([] : List Int).length) = []) = true from by simp]
      have q0 := A4.rb.c0
      have q1 := A4.rb.c1
      have q2 := A4.rb.c2
      have z0 := A4.rb.fz 0
      have z1 := A4.rb.fz 1
      have z2 := A4.rb.fz 2
      have o0 := A4.pb.c0
      have o1 := A4.pb.c1
      have o2 := A4.pb.c2
      have ex : SS.extract 0 t.stk.length = SS := by rw [HSS.out, str_extract, List.take_of_length_le (Nat.le_refl _)]; rfl
      have hex : EX.size = 1 := by rw [HEY.out, str_size]; rfl
      obtain ⟨rf, rbl⟩ := A4.res hqr (SS ++ EX) SP
      have FIN : AfterOut w (((w9.setCell ⟨qr, 0, none⟩ (.int .i64 a)).setCell ⟨qr, 1, none⟩ (.string (SS ++ EX))).setCell ⟨qr, 2, none⟩ (.string SP)) m f a (8, (n : Int)) t (.returned (.tuple #[.agg #[.int .i64 a, .string (SS ++ EX), .string SP], .bool (decide (t.stk.length + 1 <= 16))])) := by
        have h := after_fin (a := a) HAF.out (by simp) rbl
        rw [<- HSP.out] at h
        have h2 : str (t.stk.take (t.stk.length - ([] : List Int).length) ++ [kk]) = SS ++ EX := by rw [HSS.out, HEY.out, str_append]; simp
        rw [h2] at h
        exact h
      have FIN := hid FIN
      have hsl16 := so.len
      have j0 := rf.c0
      have j1 := rf.c1
      have j2 := rf.c2
      clear HAF rf rbl
      have t1 : (9223372036854775807 < t.stk.length + 1) = False := by simp; omega
      have HB : Hid (decide ((t.stk.length : Int) + 1 <= 16) = decide (t.stk.length + 1 <= 16)) := decide_eq_decide.2 (by omega)
      generalize decide (t.stk.length + 1 <= 16) = BB at *
      go_wp2
      refine bodyPost_ret (v := .tuple #[.agg #[.int .i64 a, .string (SS ++ EX), .string SP], .bool BB]) (by simp [results, Tryz.results74, go_sem, j0, j1, j2, HB.out]) rfl FIN.out
end Go.Proofs.YtjamgmbdilkbcaaGreat
