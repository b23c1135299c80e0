import Derived.Test.YtjamgmbdilkbcaaLotGased25
import Derived.Laws.MakeOwn
import Derived.Test.YtjamgmbdilkbcaaLotGased14
import Derived.Test.YtjamgmbdilkbcaaLotGased17
/- Sound. -/
namespace Go.Proofs.Ytjamgmbdilkbcaa
open Go.RowKit

/-- a function as the walk wants it. -/
structure FnOk (m : Pu.Md) (f : Pu.Fn) : Prop where
  np : (Fl.places f).length ≤ 8
  nc : f.code.length ≤ 1000
  nr : f.results.length ≤ 1000
  op : ∀ i, i < f.code.length → ArgOk m f (f.code.getD i (0, 0)).1 (f.code.getD i (0, 0)).2
  jp : ∀ i, i < f.code.length → (f.code.getD i (0, 0)).1 = 6 ∨ (f.code.getD i (0, 0)).1 = 7 → 0 ≤ (f.code.getD i (0, 0)).2

def blankSV : SV := ⟨false, false, 0, List.replicate 16 0, List.replicate 8 false⟩
theorem blankSV_ok : blankSV.Ok := ⟨by simp [blankSV], by simp [blankSV], by simp [blankSV]⟩
theorem Try.zero160 : (Try.prog.info? 160).map (fun i => (i.zero, i.size, i.bytes)) = some (some (.agg blankSV.cells.toArray), 27, 152) := by kernel_rfl

theorem absS_blank (n : Nat) : absS (List.replicate n blankSV) = List.replicate n none := by
  simp [absS, blankSV]

theorem made_rep (z : Array Value) (n : Nat) : (madeCells z (n * z.size)).toList = (List.replicate n z.toList).flatten := by
  have h0 : ∀ N, (madeCells z N).toList = (List.range N).map (fun i => z[i % z.size]!) := fun N => by simp [madeCells, Array.toList_range]
  induction n with
  | zero => simp [h0]
  | succ n ih =>
    rw [h0] at ih ⊢
    rw [Nat.succ_mul, List.range_add, List.map_append, ih, List.replicate_succ', List.flatten_append, List.map_map]
    congr 1
    simp only [List.flatten_cons, List.flatten_nil, List.append_nil]
    apply List.ext_getElem
    · simp
    · intro i h1 h2
      simp only [List.length_map, List.length_range] at h1
      simp only [List.getElem_map, List.getElem_range, Function.comp_apply]
      rw [Nat.mul_comm n z.size, Nat.mul_add_mod, Nat.mod_eq_of_lt h1]
      simp [h1]
theorem made_blank (n : Nat) : (madeCells blankSV.cells.toArray (n * 27)).toList = scs (List.replicate n blankSV) := by
  have h := made_rep blankSV.cells.toArray n
  rw [List.size_toArray, blankSV.len blankSV_ok] at h
  rw [h, scs, List.flatMap_replicate]

theorem lead_len (to : Int) (s : Fl.S) (p : LP) : p.T.length ≤ (leadP to s p).T.length := by
  unfold leadP
  split
  · simp
  · split <;> simp
theorem leads_len (s : Fl.S) : ∀ (L : List Nat) (p : LP), p.T.length ≤ (L.foldl (fun p (j : Nat) => leadP (j : Int) s p) p).T.length
  | [], _ => Nat.le_refl _
  | j :: L, p => Nat.le_trans (lead_len j s p) (leads_len s L _)
theorem follow_len (m : Pu.Md) (f : Pu.Fn) (a : Nat) (p : LP) : p.T.length ≤ (followP m f a p).T.length := by
  unfold followP
  split
  · exact Nat.le_refl _
  · split
    · exact Nat.le_refl _
    · exact leads_len _ _ p

def SoundOut (w w' : World) (m : Pu.Md) (f : Pu.Fn) (e : Ending) : Prop := ∃ b, e = .returned (.bool b) ∧ (b = true ↔ Fl.Sound m f) ∧ Below w.heap.size w w'

set_option maxRecDepth 100000 in
set_option maxHeartbeats 4000000 in
theorem fsound_any (m : Pu.Md) (f : Pu.Fn) (mk mv : Value) (x : FV) (w : World) (hm : MdR w w.heap.size mk mv m) (hf : FnR w w.heap.size x f) (ko : KindsOk m) (fo : FnOk m f) :
    Calls Try.prog 51 #[.agg #[mk, mv], .agg #[x.p, x.r, x.l, x.c]] w fun e w' => SoundOut w w' m f e := by
  obtain ⟨i0, hi0, hz0, hz1, hz2⟩ := info_parts Try.zero160
  obtain ⟨a1, c1, rfl⟩ := hm.k.shape
  obtain ⟨a2, c2, rfl⟩ := hm.v.shape
  obtain ⟨x1, y1, x2, y2, x3, y3, x4, y4, rfl⟩ := hf.shape
  obtain ⟨W0, hW0⟩ : ∃ W0, W0 = (w.alloc (.cells #[.slice a1 m.kinds.length c1, .slice a2 m.funcs.length c2] 33)).alloc (.cells #[.slice x1 f.params.length y1, .slice x2 f.results.length y2, .slice x3 f.locals.length y3, .slice x4 f.code.length y4] 86) := ⟨_, rfl⟩
  have bl0 : Below w.heap.size w W0 := by rw [hW0]; exact ((Below.refl w.heap.size w).alloc (Nat.le_refl _) _).alloc (by simp) _
  have mb0 : F2 W0 w.heap.size 33 (.slice a1 m.kinds.length c1) (.slice a2 m.funcs.length c2) := by rw [hW0]; exact heap_alloc2_old w _ _
  have fb0 : F4 W0 (w.heap.size + 1) 86 (.slice x1 f.params.length y1) (.slice x2 f.results.length y2) (.slice x3 f.locals.length y3) (.slice x4 f.code.length y4) := by rw [hW0]; exact heap_alloc2_new w _ _
  have hf0 := (hf.below bl0).wide bl0.size
  have hpb : f.params.length ≤ 1000000 ∧ f.locals.length ≤ 1000000 := by have := fo.np; unfold Fl.places at this; rw [List.length_append] at this; omega
  have HW := hid hW0
  clear hW0
  simp only
  go_enter Try.func51, Try.ntmps51
  go_wp2_with fail
  rw [← HW.out]
  clear HW
  refine (fplaces_any f _ W0 hf0 hpb).mono ?_
  rintro e w1 ⟨pv, rfl, po, bl1⟩
  obtain ⟨ap, cp, rfl⟩ := owns_shape po
  have hnp := fo.np
  have mb1 : F2 w1 w.heap.size 33 _ _ := (bl1.block _ mb0.lt).trans mb0
  have fb1 : F4 w1 (w.heap.size + 1) 86 _ _ _ _ := (bl1.block _ fb0.lt).trans fb0
  have u0 := mb1.c0
  have u1 := mb1.c1
  have v0 := fb1.c0
  have v1 := fb1.c1
  have v2 := fb1.c2
  have v3 := fb1.c3
  have l0 := mb1.lt
  have l1 := fb1.lt
  have B1 : Below w.heap.size w w1 := bl0.trans (bl1.mono bl0.size)
  have hnc := fo.nc
  have hz1' := B1.size
  obtain ⟨W2, hW2⟩ : ∃ W2, W2 = w1.alloc (.cells #[.slice a1 m.kinds.length c1, .slice a2 m.funcs.length c2, .slice x1 f.params.length y1, .slice x2 f.results.length y2, .slice x3 f.locals.length y3, .slice x4 f.code.length y4, .slice ap (Fl.places f).length cp, .slice none 0 0, .slice none 0 0, .bool false] 157) := ⟨_, rfl⟩
  have wk2 : WK W2 w1.heap.size (.slice a1 m.kinds.length c1) (.slice a2 m.funcs.length c2) ⟨.slice x1 f.params.length y1, .slice x2 f.results.length y2, .slice x3 f.locals.length y3, .slice x4 f.code.length y4⟩ (.slice ap (Fl.places f).length cp) (.slice none 0 0) (.slice none 0 0) false := ⟨by rw [hW2]; exact heap_alloc_new w1 _⟩
  have b2 : Below w1.heap.size w1 W2 := by rw [hW2]; exact (Below.refl w1.heap.size w1).alloc (Nat.le_refl _) _
  obtain ⟨W3, hW3⟩ : ∃ W3, W3 = W2.alloc (.cells (scs (List.replicate f.code.length blankSV)).toArray 160) := ⟨_, rfl⟩
  have hmk : (Instr.makeSlice 155 (.int .i64 (f.code.length : Int)) (.int .i64 (f.code.length : Int))).run Try.prog W2 = .ok (.slice (some ⟨W2.heap.size, 0, none⟩) f.code.length f.code.length) W3 := by
    have hk := run_make (P := Try.prog) W2 155 160 i0 _ Try.underlying155 hi0 hz0 .i64 .i64 (f.code.length : Int) (f.code.length : Int) (by omega) (by omega) (by rw [hz2]; omega) (by omega)
    have e1 : (f.code.length : Int).toNat = f.code.length := by omega
    rw [e1, hz1] at hk
    rw [hW3, ← made_blank, Array.toArray_toList]
    exact hk
  have hr3 : W3.heap[W2.heap.size]? = some (.cells (scs (List.replicate f.code.length blankSV)).toArray 160 (0, 0)) := by rw [hW3]; exact heap_alloc_new _ _
  have okB : ∀ s ∈ List.replicate f.code.length blankSV, s.Ok := fun s hs => by rw [(List.mem_replicate.1 hs).2]; exact blankSV_ok
  have hsl := scs_len (List.replicate f.code.length blankSV) okB
  rw [List.length_replicate] at hsl
  have g3 : W2.grownBy W3 none := by rw [hW3]; exact World.grownBy_alloc _ _ none
  have os3 : W3.ownsRow w1.heap.size 160 27 (.slice (some ⟨W2.heap.size, 0, none⟩) f.code.length f.code.length) f.code.length (scs (List.replicate f.code.length blankSV)) :=
    ⟨hsl, .inr ⟨W2.heap.size, f.code.length, (scs (List.replicate f.code.length blankSV)).toArray, rfl, b2.size, hr3, Nat.le_refl _, by unfold maxLen; omega, by simp [hsl], by rw [List.take_of_length_le (by simp [hsl])]⟩⟩
  have wk3 := wk2.kept g3 (by simp)
  have e7 := wk3.c7
  have z7 := wk3.fz 7
  have sz2 : W2.heap.size = w1.heap.size + 1 := by rw [hW2]; simp
  rw [sz2] at hmk os3
  rw [hW2] at hmk
  have b3 : Below w1.heap.size W2 W3 := ⟨g3.os, g3.tape, g3.output, g3.size, fun k hk => g3.block k (by omega) (by simp)⟩
  have b4 := (b2.trans b3).setCell (p := ⟨w1.heap.size, 7, none⟩) (Nat.le_refl _) (.slice (some ⟨w1.heap.size + 1, 0, none⟩) f.code.length f.code.length)
  have wk4 := wk3.set7 (.slice (some ⟨w1.heap.size + 1, 0, none⟩) f.code.length f.code.length)
  have os4 := owns_set os3 (q := w1.heap.size) (by simp [Value.ownBlock]) 7 (.slice (some ⟨w1.heap.size + 1, 0, none⟩) f.code.length f.code.length)
  have pr1 : IntsR w1 w1.heap.size (.slice ap (Fl.places f).length cp) (Fl.places f) := owns_ints po
  have wm4 : WM (W3.setCell ⟨w1.heap.size, 7, none⟩ (.slice (some ⟨w1.heap.size + 1, 0, none⟩) f.code.length f.code.length)) w1.heap.size w1.heap.size m f (.slice a1 m.kinds.length c1) (.slice a2 m.funcs.length c2) (.slice ap (Fl.places f).length cp) (.slice (some ⟨w1.heap.size + 1, 0, none⟩) f.code.length f.code.length) (.slice none 0 0) ⟨.slice x1 f.params.length y1, .slice x2 f.results.length y2, .slice x3 f.locals.length y3, .slice x4 f.code.length y4⟩ false :=
    ⟨wk4, ((hm.below B1).wide B1.size).below b4, ((hf.below B1).wide B1.size).below b4, pr1.below b4, ko, fo.np, Nat.le_refl _⟩
  have ww4 : WW _ w1.heap.size w1.heap.size m f _ _ _ _ _ _ false (List.replicate f.code.length blankSV) [] := ⟨wm4, by rw [List.length_replicate]; exact os4, World.ownsRow_nil _ _ _ _, fun s hs => ⟨okB s hs, fun h => by rw [(List.mem_replicate.1 hs).2] at h; simp [blankSV] at h⟩⟩
  have FO := hid fo
  clear mb0 fb0 wk2 wk3 wk4 os3 os4 wm4 g3 b3 hr3 hsl okB hW2 hW3 b2 sz2 hm hf hf0 ko fo pr1 po
  go_wp2_with fail
  clear hmk e7 z7
  generalize W3.setCell ⟨w1.heap.size, 7, none⟩ (.slice (some ⟨w1.heap.size + 1, 0, none⟩) f.code.length f.code.length) = W4 at *
  have l4 := ww4.wm.k.lt
  refine (fbegin_any w1.heap.size w1.heap.size m f _ _ _ _ _ _ _ W4 ww4.wm).mono ?_
  rintro e w5 ⟨rfl, bl5⟩
  have ww5 := ww4.below bl5
  have b5 : Below w1.heap.size w1 w5 := b4.trans (bl5.mono (by omega))
  have oi : (initSV f).Ok := initSV_ok f (by have := FO.out.np; unfold Fl.places at this; rw [List.length_append] at this; omega)
  clear ww4 b4 bl5
  have hil := (initSV f).len oi
  obtain ⟨Z, hZ⟩ : ∃ Z : Array Value, Z = #[.bool false, .bool false, .int .i64 0, .int .i64 0, .int .i64 0, .int .i64 0, .int .i64 0, .int .i64 0, .int .i64 0, .int .i64 0, .int .i64 0, .int .i64 0, .int .i64 0, .int .i64 0, .int .i64 0, .int .i64 0, .int .i64 0, .int .i64 0, .int .i64 0, .bool false, .bool false, .bool false, .bool false, .bool false, .bool false, .bool false, .bool false] := ⟨_, rfl⟩
  have hz : Z.size = 27 := by rw [hZ]; rfl
  have th := there_new w5 Z hz 160
  have bx := boxed w5 Z hz (initSV f) oi
  have rg := range_box bx.1
  rw [hZ] at th bx rg
  clear hZ hz
  unfold SV.val
  go_wp2_with (first | refine wpList_load_mid rfl 160 _ rfl w5.heap.size 0 rfl (initSV f).cells _ rg Try.underlying160 rfl (by rw [hil]; exact Try.size160) ?_ | refine wpList_store_mid rfl 160 _ _ rfl w5.heap.size 0 (initSV f).cells.toArray rfl rfl (by simp only [List.size_toArray, hil]; exact th) (by simp only [List.size_toArray, hil]; exact Try.size160) (all_oneCell_toArray (SV.one _)) ?_)
  obtain ⟨_, hbl6⟩ := bx
  clear rg th
  generalize (w5.alloc (Obj.cells #[Value.bool false, Value.bool false, Value.int IntKind.i64 0, Value.int IntKind.i64 0, Value.int IntKind.i64 0, Value.int IntKind.i64 0, Value.int IntKind.i64 0, Value.int IntKind.i64 0, Value.int IntKind.i64 0, Value.int IntKind.i64 0, Value.int IntKind.i64 0, Value.int IntKind.i64 0, Value.int IntKind.i64 0, Value.int IntKind.i64 0, Value.int IntKind.i64 0, Value.int IntKind.i64 0, Value.int IntKind.i64 0, Value.int IntKind.i64 0, Value.int IntKind.i64 0, Value.bool false, Value.bool false, Value.bool false, Value.bool false, Value.bool false, Value.bool false, Value.bool false, Value.bool false] 160)).setCells w5.heap.size 0 (initSV f).cells = W6 at *
  have ww6 := ww5.below hbl6
  have b6 : Below w1.heap.size w1 W6 := b5.trans (hbl6.mono b5.size)
  clear ww5 b5 hbl6
  refine (flead_any w1.heap.size w1.heap.size 0 (initSV f) m f _ _ _ _ _ _ _ _ _ W6 ww6 oi rfl rfl (by simp)).mono ?_
  rintro e w7 ⟨rfl, ⟨td7, ss7, ww7, ha7, _⟩, fr7⟩
  rw [initSV_st, absS_blank] at ww7 ha7
  have I0 := inv_start m f
  have b7 : Below w1.heap.size w1 w7 := b6.trans (fr7.below (fun k hk => by
    rcases hk with h | h | h
    · omega
    · simp only [Value.ownBlock, Option.some.injEq] at h; omega
    · simp [Value.ownBlock] at h) b6.size)
  generalize leadP 0 (Fl.init f) ⟨List.replicate f.code.length none, [], false⟩ = p0 at *
  clear fr7 ww6 b6
  go_wp2
  go_loopw [8] (fun i wr => ∃ (k : Nat) (p : LP) (td : Value) (ss : List SV), i = .int .i64 k ∧ k ≤ p.T.length ∧ Inv m f p k ∧ WW wr w1.heap.size w1.heap.size m f (.slice a1 m.kinds.length c1) (.slice a2 m.funcs.length c2) (.slice ap (Fl.places f).length cp) (.slice (some ⟨w1.heap.size + 1, 0, none⟩) f.code.length f.code.length) td ⟨.slice x1 f.params.length y1, .slice x2 f.results.length y2, .slice x3 f.locals.length y3, .slice x4 f.code.length y4⟩ p.bad ss p.T ∧ absS ss = p.σ ∧ Below w1.heap.size w1 wr) (fun i _ => f.code.length - (intOf i).toNat)
  case atStart => exact ⟨0, p0, td7, ss7, rfl, Nat.zero_le _, I0, ww7, ha7, b7⟩
  case round =>
    obtain ⟨k, p, td, ss, rfl, hk, I, ww, ha, b⟩ := hrel
    clear I0 ww7 ha7 b7
    have hTn : p.T.length ≤ f.code.length := by have := I.core.cnt; omega
    obtain ⟨at_, ct, htd⟩ := owns_shape ww.ot
    subst htd
    have d8 := ww.wm.k.c8
    have d9 := ww.wm.k.c9
    have bF : Below w.heap.size w wr := B1.trans (b.mono B1.size)
    cases hbd : p.bad with
    | true =>
      have FIN : Hid (SoundOut w wr m f (.returned (.bool false))) := ⟨false, rfl, by simp; exact inv_bad I hbd, bF⟩
      rw [hbd] at d9
      clear I ww ha
      by_cases hlt : k < p.T.length
      · go_wp2
        go_ret
        exact FIN.out
      · go_wp2
        go_ret
        exact FIN.out
    | false =>
      rw [hbd] at d9
      by_cases hlt : k < p.T.length
      · have hsn : ss.length = f.code.length := by have h := I.core.len; rw [← ha] at h; simpa [absS] using h
        have hti : p.T[k]? = some (p.T.getD k 0) := by rw [List.getD_eq_getElem?_getD, List.getElem?_eq_getElem hlt]; rfl
        obtain ⟨s, hs⟩ := I.core.tk _ (List.mem_of_getElem? hti)
        have hlt2 := getD_lt hs
        rw [I.core.len, ← hsn] at hlt2
        have hkn : ss[p.T.getD k 0].kn = true := by
          rw [← ha] at hs
          simp only [absS, List.getD_eq_getElem?_getD, List.getElem?_map] at hs
          have e : p.T[k]?.getD 0 < ss.length := by rw [← List.getD_eq_getElem?_getD]; exact hlt2
          rw [List.getElem?_eq_getElem e] at hs
          simp only [Option.map_some, Option.getD_some] at hs
          split at hs
          · simpa [List.getD_eq_getElem?_getD] using ‹_›
          · simp at hs
        have I2 := inv_step I hlt
        obtain ⟨gt, rfl⟩ : ∃ gt, at_ = some ⟨gt, 0, none⟩ := by
          rcases ww.ot.2 with ⟨_, h0⟩ | ⟨g0, cap', cur, h0, _⟩
          · omega
          · simp only [Value.slice.injEq] at h0
            exact ⟨g0, h0.1⟩
        have c1' : wr.cell? ⟨gt, k, none⟩ = some (.int .i64 (p.T.getD k 0 : Nat)) := by
          have := ww.ot.cellAt k (by omega)
          rw [List.getElem?_map, hti] at this
          exact this
        have hop := FO.out.op (p.T.getD k 0) (by omega)
        have hjp := FO.out.jp (p.T.getD k 0) (by omega)
        have hpe : p = ⟨absS ss, p.T, false⟩ := by rw [ha, ← hbd]
        rw [hbd] at ww
        have HPE := hid hpe
        clear hpe ha hti
        generalize p.T.getD k 0 = a at *
        go_wp2_with fail
        refine (ffollow_any w1.heap.size w1.heap.size a m f _ _ _ _ _ _ _ ss p.T wr ww hsn hlt2 hkn hop hjp (by omega) (by omega)).mono ?_
        rintro e w9 ⟨rfl, ⟨td9, ss9, ww9, ha9, _⟩, fr9⟩
        rw [← HPE.out] at ww9 ha9
        clear HPE
        have hk9 : k + 1 ≤ (followP m f a p).T.length := by have := follow_len m f a p; omega
        have b9 : Below w1.heap.size w1 w9 := b.trans (fr9.below (fun k hk => by
          rcases hk with h | h | h
          · omega
          · simp only [Value.ownBlock, Option.some.injEq] at h; omega
          · exact (ww.ot.lt k h).1) b.size)
        clear ww fr9 I c1' d8 d9 b bF hs
        go_wp2
        go_roundw
        case rel => exact ⟨k + 1, _, td9, ss9, by go_num, hk9, I2, ww9, ha9, b9⟩
        case measure => simp [intOf]; omega
      · have hkl : k = p.T.length := by omega
        subst hkl
        have FIN : Hid (SoundOut w wr m f (.returned (.bool true))) := ⟨true, rfl, by simp; exact inv_end I hbd, bF⟩
        clear I ww ha
        go_wp2
        go_ret
        exact FIN.out
end Go.Proofs.Ytjamgmbdilkbcaa

/- Held.decode. -/
namespace Go.Proofs.Ytjamgmbdilkbcaa
open Go.RowKit

theorem dec_is {b : ByteArray} (h : (Pu.decode b).2.1 = 0) : Pu.isMd (Pu.decode b).1 = true := by
  have := Pu.canon h
  unfold Pu.encode at this
  cases hm : Pu.isMd (Pu.decode b).1 with
  | true => rfl
  | false => rw [hm] at this; simp at this

theorem is_small {m : Pu.Md} (h : Pu.isMd m = true) : Small m ∧ m.funcs.length ≤ 8 := by
  simp only [Pu.isMd, Bool.and_eq_true, decide_eq_true_eq, List.all_eq_true] at h
  obtain ⟨h1, h2, h3, h4⟩ := h
  simp only [Pu.isList, Bool.and_eq_true, decide_eq_true_eq] at h1
  refine ⟨⟨by omega, by omega, fun f hf => ?_⟩, h3⟩
  have hh := h4 f hf
  simp only [Pu.isFn, Pu.isList, Bool.and_eq_true, decide_eq_true_eq] at hh
  omega

theorem Hd.le {w : World} {B ph : Nat} {S : Nat → Prop} {K K' : Nat} (h : Hd w B ph S K) (hk : K ≤ K') : Hd w B ph S K' := by
  obtain ⟨N, vi, vc, vf, ei, ec, ef, h, g, k1, k2, k3⟩ := h
  exact ⟨N, vi, vc, vf, ei, ec, ef, h, g, by omega, by omega, by omega⟩

theorem md_nil (w : World) (B : Nat) : MdAt w B ⟨[], []⟩ (.slice none 0 0) (.slice none 0 0) [] :=
  ⟨World.ownsRow_nil w B _ _, World.ownsRow_nil w B _ _, trivial, by simp [bl, fc, Value.ownBlock]⟩

/-- what Decode hands out, told once. -/
theorem DecOut.one {w w' : World} {b : ByteArray} {e : Ending} (h : DecOut w w' b e) : ∃ (k v : Value) (xs : List FV), e = .returned (.tuple #[.agg #[k, v], .int .i64 (Pu.decode b).2.1, .int .i64 (Pu.decode b).2.2]) ∧ MdAt w' w.heap.size (Pu.decode b).1 k v xs ∧ Small (Pu.decode b).1 ∧ (Pu.decode b).1.funcs.length ≤ 8 := by
  rcases h with ⟨k, v, xs, he, hm, hd⟩ | ⟨he, hd, _⟩
  · have := is_small (dec_is (b := b) (by rw [hd]))
    exact ⟨k, v, xs, by rw [he, hd], hm, this⟩
  · refine ⟨_, _, [], he, by rw [hd]; exact md_nil _ _, ?_⟩
    rw [hd]
    simp [Small]

theorem RDecOut.one {w' : World} {b : ByteArray} {e : Ending} (h : RDecOut w' b e) : ∃ (k v : Value), e = .returned (.tuple #[.agg #[k, v], .int .i64 (Pu.decode b).2.1, .int .i64 (Pu.decode b).2.2]) ∧ MdR w' w'.heap.size k v (Pu.decode b).1 := by
  rcases h with ⟨k, v, he, hm, hd⟩ | ⟨he, hd, _⟩
  · exact ⟨k, v, by rw [he, hd], hm⟩
  · exact ⟨_, _, he, by rw [hd]; exact mdAt_reads (md_nil w' 0)⟩

theorem MdAt.below {w w' : World} {B : Nat} {m : Pu.Md} {k v : Value} {xs : List FV} (h : MdAt w B m k v xs) (hb : Below w.heap.size w w') : MdAt w' B m k v xs :=
  h.none ⟨hb.os, hb.tape, hb.output, hb.size, fun k hk _ => hb.block k hk⟩

theorem MdAt.ge {w : World} {B : Nat} {m : Pu.Md} {k v : Value} {xs : List FV} (h : MdAt w B m k v xs) : ∀ j ∈ bl (k :: v :: fc xs), B ≤ j := by
  intro j hj
  rw [bl_cons, bl_cons, List.mem_append, List.mem_append, ← rows_bl _ _ h.hf.len] at hj
  rcases hj with hj | hj | hj
  · exact (h.hk.lt j (by simpa using hj)).1
  · exact (h.hv.lt j (by simpa using hj)).1
  · obtain ⟨r, hr, hrj⟩ := List.mem_flatMap.1 hj
    exact ((rows_own h.hf r hr).1.lt j (by simpa using hrj)).1

set_option maxRecDepth 100000 in
set_option maxHeartbeats 2000000 in
theorem hdecode_any (b : ByteArray) (B ph K : Nat) (S : Nat → Prop) (w : World) (hd : Hd w B ph S K) (hs : b.size ≤ maxLen) (hK : K ≤ 900000000) :
    Calls Try.prog 11 #[.pointer (some ⟨ph, 0, none⟩), .string b] w fun e w' => e = .returned (.bool true) ∧ (∃ S', Hd w' B ph S' (K + 136)) ∧ Below B w w' := by
  have hBp := hd.lt
  go_enter Try.func11, Try.ntmps11
  go_wp2_with fail
  refine (decode_any b _ hs).mono ?_
  rintro e w1 ⟨ho, hb1⟩
  obtain ⟨k, v, xs, rfl, hm, hsm, hf8⟩ := ho.one
  obtain ⟨a1, c1, rfl⟩ := owns_shape hm.hk
  obtain ⟨a2, c2, rfl⟩ := owns_shape hm.hv
  clear ho
  obtain ⟨m, hm0⟩ : ∃ m, m = (Pu.decode b).1 := ⟨_, rfl⟩
  obtain ⟨ev, hev⟩ : ∃ ev, ev = (Pu.decode b).2.1 := ⟨_, rfl⟩
  obtain ⟨av, hav⟩ : ∃ av, av = (Pu.decode b).2.2 := ⟨_, rfl⟩
  rw [← hm0] at hm hsm hf8 ⊢
  rw [← hev, ← hav]
  have HE : Hid _ := And.intro hm0 (And.intro hev hav)
  clear hm0 hev hav
  have hba := (Below.refl w1.heap.size w1).alloc (Nat.le_refl _) (.cells #[.slice a1 m.kinds.length c1, .slice a2 m.funcs.length c2] 33)
  have bxa : F2 (w1.alloc (.cells #[.slice a1 m.kinds.length c1, .slice a2 m.funcs.length c2] 33)) w1.heap.size 33 (.slice a1 m.kinds.length c1) (.slice a2 m.funcs.length c2) := heap_alloc_new w1 _
  have hma := hm.below hba
  have hb2 := hb1.trans (hba.mono hb1.size)
  have z1 := hb1.size
  clear hm hba hb1
  go_wp2_with fail
  refine (rdecode_any b _ hs).mono ?_
  rintro e w3 ⟨ho, hb⟩
  obtain ⟨k', v', rfl, hr⟩ := ho.one
  rw [← HE.out.1] at hr
  rw [← HE.out.2.1, ← HE.out.2.2]
  obtain ⟨a1', c1', rfl⟩ := hr.k.shape
  obtain ⟨a2', c2', rfl⟩ : ∃ a c, v' = .slice a m.funcs.length c := by
    obtain ⟨ao, cap, _, _, hv, _⟩ := hr.v
    exact ⟨ao, cap, hv⟩
  have z3 := hb.size
  have bx3 : F2 w3 w1.heap.size 33 (.slice a1 m.kinds.length c1) (.slice a2 m.funcs.length c2) := (hb.block w1.heap.size (by simp)).trans bxa
  have hm3 := hma.below hb
  have hb3 := hb2.trans (hb.mono (by simp only [World.size_alloc]; omega))
  clear ho hma hb bxa hb2 HE
  have hba := (Below.refl w3.heap.size w3).alloc (Nat.le_refl _) (.cells #[.slice a1' m.kinds.length c1', .slice a2' m.funcs.length c2'] 33)
  have bx4 : F2 (w3.alloc (.cells #[.slice a1' m.kinds.length c1', .slice a2' m.funcs.length c2'] 33)) w1.heap.size 33 (.slice a1 m.kinds.length c1) (.slice a2 m.funcs.length c2) := (hba.block w1.heap.size bx3.lt).trans bx3
  have hm4 := hm3.below hba
  have hr4 := (hr.below hba).wide (B' := (w3.alloc (.cells #[.slice a1' m.kinds.length c1', .slice a2' m.funcs.length c2'] 33)).heap.size) (by simp)
  have hb4 := hb3.trans (hba.mono (B' := w.heap.size) (by simp only [World.size_alloc] at z3; omega))
  have hq4 := mdAt_reads hm4
  have q0 := bx4.c0
  have q1 := bx4.c1
  clear hm3 bx3 hb3 hr hba
  go_wp2_with fail
  refine (sameModule_same m _ _ _ _ _ hq4 hr4).mono ?_
  rintro e w5 ⟨rfl, hb⟩
  have z5 := hb.size
  simp only [World.size_alloc] at z3 z5
  have bx5 : F2 w5 w1.heap.size 33 (.slice a1 m.kinds.length c1) (.slice a2 m.funcs.length c2) := (hb.block w1.heap.size (by simp only [World.size_alloc]; omega)).trans bx4
  have hm5 := hm4.below hb
  have hb5 := hb4.trans (hb.mono (by simp only [World.size_alloc]; omega))
  have hd5 := (hd.more (S' := fun k => k < w.heap.size) (fun k h _ => h)).below hb5
  have hge := hm5.ge
  clear hd q0 q1 bx4 hm4 hr4 hq4 hb hb4
  have q0 := bx5.c0
  have q1 := bx5.c1
  go_wp2_with fail
  clear q0 q1
  refine (hmodule_any B ph K _ m _ _ xs w5 hd5 (hm5.base (by omega)) hsm (fun j hj h => by have := hge j hj; omega) (by omega)).mono ?_
  rintro e w6 ⟨rfl, ⟨S6, hd6⟩, hb6⟩
  have hb7 := (hb5.mono (B' := B) (by omega)).trans hb6
  have hd7 : ∃ S', Hd w6 B ph S' (K + 136) := ⟨S6, hd6.le (by omega)⟩
  have HD7 : Hid _ := hd7
  clear hd6 hb6 hb5 hd5 hm5 hge bx5 hd7 hsm
  go_wp2_with fail
  refine (num_any ev _).mono ?_
  rintro e w7 ⟨rfl, rfl⟩
  go_wp2
  go_ret
  exact ⟨rfl, HD7.out, hb7⟩
end Go.Proofs.Ytjamgmbdilkbcaa
