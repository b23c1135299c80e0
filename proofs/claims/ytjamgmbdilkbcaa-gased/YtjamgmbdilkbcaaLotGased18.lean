import Derived.Test.YtjamgmbdilkbcaaLotGased15
import Derived.Test.YtjamgmbdilkbcaaLotGased17
import Derived.Test.YtjamgmbdilkbcaaLotGased09
import Derived.Test.YtjamgmbdilkbcaaLotGased03
import Derived.Test.YtjamgmbdilkbcaaLotGased14
/- The document's Encode: small, put. -/
namespace Go.Proofs.Ytjamgmbdilkbcaa
open Go.RowKit

set_option maxHeartbeats 400000 in
theorem small_any (l : List Int) (v : Value) (B : Nat) (w : World) (h : IntsR w B v l) (hl : l.length ≤ maxLen) :
    Calls Try.prog 72 #[v] w fun e w' => e = .returned (.bool (Pu.smallL l)) ∧ w' = w := by
  obtain ⟨ao, cap, b, off, rfl, h1, h2⟩ := h
  unfold maxLen at hl
  go_enter Try.func72, Try.ntmps72
  go_wp2
  go_loop [3] (fun i => ∃ k : Nat, k ≤ l.length ∧ i = .int .i64 k ∧ (l.take k).all Pu.isB = true) (fun i => l.length - (intOf i).toNat)
  case atStart => exact ⟨0, Nat.zero_le _, rfl, by simp⟩
  case round =>
    obtain ⟨k, hk, rfl, ha⟩ := hrel
    by_cases hlt : k < l.length
    · obtain ⟨rfl, hbB⟩ := h1 (by omega)
      have hc := h2 k hlt
      clear h1 h2
      have HT : Hid _ := take_all_snoc l Pu.isB k 0 hlt
      have HF : Hid _ := all_false_of l Pu.isB k 0 hlt
      have HA : Hid _ := ha
      clear ha
      generalize l.getD k 0 = x at *
      by_cases hx0 : x < 0
      · go_wp2
        go_ret
        exact ⟨ret_bool (by rw [Pu.smallL, HF.out (by simp [Pu.isB]; omega)]; rfl), rfl⟩
      · by_cases hx1 : 255 < x
        · go_wp2
          go_ret
          exact ⟨ret_bool (by rw [Pu.smallL, HF.out (by simp [Pu.isB]; omega)]; rfl), rfl⟩
        · go_wp2
          go_round
          case rel => exact ⟨k + 1, hlt, by go_num, by rw [HT.out, HA.out]; simp [Pu.isB]; omega⟩
          case measure => simp [intOf]; omega
    · have HA : Hid _ := ha
      clear ha
      have hle : (l.take k).all Pu.isB = l.all Pu.isB := by rw [List.take_of_length_le (by omega)]
      have HLE : Hid _ := hle
      clear hle
      by_cases hl2 : l.length < 256
      · go_wp2
        go_ret
        exact ⟨ret_bool (by rw [Pu.smallL, ← HLE.out, HA.out]; simp; omega), rfl⟩
      · go_wp2
        go_ret
        exact ⟨ret_bool (by rw [Pu.smallL, show decide (l.length < 256) = false from by simp; omega, Bool.and_false]; symm; simp; omega), rfl⟩

theorem bv_snoc (l : List UInt8) (c : UInt8) : bv (l ++ [c]) = bv l ++ [.int .u8 (c.toNat : Int)] := by simp [bv]

theorem byte_val (n : Int) : ((Pu.byte n).toNat : Int) = n % 256 := by
  unfold Pu.byte
  rw [UInt8.toNat_ofNat']
  omega

theorem owns_new (w : World) (v : Value) (e : TypeId) : (w.alloc (.cells #[v] e)).ownsRow w.heap.size e 1 (.slice (some ⟨w.heap.size, 0, none⟩) 1 1) 1 [v] :=
  ⟨rfl, .inr ⟨w.heap.size, 1, #[v], rfl, Nat.le_refl _, heap_alloc_new w _, Nat.le_refl _, by decide, rfl, rfl⟩⟩

set_option maxHeartbeats 400000 in
theorem put_any (l : List Int) (v : Value) (w : World) (h : IntsR w w.heap.size v l) (hl : l.length ≤ 1000000) :
    Calls Try.prog 73 #[v] w fun e w' => e = .returned (.string ⟨(Pu.wList l).toArray⟩) ∧ Below w.heap.size w w' := by
  obtain ⟨i0, hi0, hz0, hz1, hz2⟩ := info_parts Try.info5
  obtain ⟨ao, cap, b, off, rfl, h1, h2⟩ := h
  have H1 : Hid _ := h1
  have H2 : Hid _ := h2
  clear h1 h2
  go_enter Try.func73, Try.ntmps73
  have o0 := owns_new w (.int .u8 ((l.length : Int) % 256)) 5
  have b0 := (Below.refl w.heap.size w).alloc (Nat.le_refl _) (.cells #[.int .u8 ((l.length : Int) % 256)] 5)
  go_wp2
  go_loopw [3, 4] (fun g i wr => ∃ k : Nat, k ≤ l.length ∧ i = .int .i64 k ∧ wr.ownsRow w.heap.size 5 1 g (k + 1) (bv (Pu.byte l.length :: (l.map Pu.byte).take k)) ∧ Below w.heap.size w wr) (fun _ i _ => l.length - (intOf i).toNat)
  case atStart => exact ⟨0, Nat.zero_le _, rfl, by simpa [bv, byte_val] using o0, b0⟩
  case round =>
    obtain ⟨k, hk, rfl, ho, hb⟩ := hrel
    clear o0 b0
    obtain ⟨ag, cg, rfl⟩ := owns_shape ho
    by_cases hlt : k < l.length
    · obtain ⟨rfl, hbB⟩ := H1.out (by omega)
      have hc := (hb.cell (p := ⟨b, off + k, none⟩) hbB).trans (H2.out k hlt)
      have HT : Hid (bv (Pu.byte l.length :: (l.map Pu.byte).take (k + 1)) = bv (Pu.byte l.length :: (l.map Pu.byte).take k) ++ [.int .u8 (l.getD k 0 % 256)]) := by
        show _ = _
        rw [List.take_succ_eq_append_getElem (by simpa using hlt), List.getD_eq_getElem?_getD, List.getElem?_eq_getElem hlt, ← List.cons_append, bv_snoc, List.getElem_map, byte_val]
        rfl
      generalize l.getD k 0 = x at *
      have hz := hb.size
      have oa := ho.alloc (.cells #[.int .u8 (x % 256)] 5)
      go_wp2_with (at_builtin; refine wpList_append_own _ rfl _ _ 122 rfl w.heap.size 5 i0 (.int .u8 0) 1 1 Try.underlying122 hi0 hz0 hz1 hz2 rfl (by decide) _ _ _ rfl oa ⟨wr.heap.size, 0, none⟩ 1 1 [.int .u8 (x % 256)] rfl rfl (cell_one_new _ _ _) ?c2 ?c3 ?c4 ?c5 ?_)
      case c2 => first | rfl | (intro u hu; simp at hu; subst hu; rfl)
      case c3 => unfold maxLen; omega
      case c4 => omega
      case c5 => first | omega | (simp only [World.size_alloc]; omega)
      intro v' w1 hown' hgrow _
      have hb1 : Below w.heap.size w w1 := (hb.alloc hz _).grown hgrow (by simp only [World.size_alloc]; omega) (fun k hk => (ho.lt k hk).1)
      rw [← HT.out] at hown'
      clear hgrow ho hb hc oa HT
      obtain ⟨ag2, cg2, rfl⟩ := owns_shape hown'
      go_wp2
      go_roundw
      case rel => exact ⟨k + 1, hlt, by go_num, hown', hb1⟩
      case measure => simp [intOf]; omega
    · have hk2 : k = l.length := by omega
      subst hk2
      have hcv := wr_string (l := Pu.wList l) (by simpa [Pu.wList, List.take_of_length_le] using ho)
      obtain ⟨s, hs⟩ : ∃ s : ByteArray, s = ⟨(Pu.wList l).toArray⟩ := ⟨_, rfl⟩
      rw [← hs] at hcv
      have HS : Hid _ := hs
      clear ho hs
      go_wp2
      go_ret
      rw [← HS.out]
      exact ⟨rfl, hb⟩
end Go.Proofs.Ytjamgmbdilkbcaa

/- Straight: the line in memory; one, mayDrop, mayCopy, places, pick, write. -/
namespace Go.Proofs.Ytjamgmbdilkbcaa
open Go.RowKit

/-- the bytes of code. -/
def cs (c : List (Int × Int)) : ByteArray := ⟨(Pu.wCode c).toArray⟩
def one8 (n : Int) : ByteArray := ⟨#[Pu.byte n]⟩
theorem cs_snoc (c : List (Int × Int)) (x : Int × Int) : cs c ++ one8 x.1 ++ one8 x.2 = cs (c ++ [x]) := by
  apply ByteArray.ext
  simp [cs, one8, ByteArray.data_append, Pu.wCode_snoc]
theorem cs_size (c : List (Int × Int)) : (cs c).size = 2 * c.length := by
  unfold cs ByteArray.size
  simp only [List.size_toArray]
  induction c with
  | nil => rfl
  | cons a l ih => simp only [Pu.wCode, List.flatMap_cons, List.length_append, List.length_cons, List.length_nil] at ih ⊢; omega

/-- the line's cells. -/
def lc (v : Value) (l : Ln.L) : List Value := .string (cs l.code) :: .int .i64 l.code.length :: v :: (l.full.map Value.bool ++ [.bool l.well])

structure LR (w : World) (q : Nat) (v : Value) (l : Ln.L) : Prop where
  b : w.heap[q]? = some (.cells (lc v l).toArray 60 (0, 0))
  hf : l.full.length = 6

section
variable {w w' : World} {q : Nat} {v : Value} {l : Ln.L}
theorem LR.lt (s : LR w q v l) : q < w.heap.size := (Array.getElem?_eq_some_iff.1 s.b).1
theorem LR.cell (s : LR w q v l) (i : Nat) : w.cell? ⟨q, i, none⟩ = (lc v l)[i]? := by simp [World.cell?, s.b]
theorem LR.fz (s : LR w q v l) (i : Nat) : w.frozen? ⟨q, i, none⟩ = false := by simp [World.frozen?, s.b]
theorem LR.c0 (s : LR w q v l) : w.cell? ⟨q, 0, none⟩ = some (.string (cs l.code)) := by rw [s.cell]; rfl
theorem LR.c1 (s : LR w q v l) : w.cell? ⟨q, 1, none⟩ = some (.int .i64 l.code.length) := by rw [s.cell]; rfl
theorem LR.c2 (s : LR w q v l) : w.cell? ⟨q, 2, none⟩ = some v := by rw [s.cell]; rfl
theorem LR.cf (s : LR w q v l) (i : Nat) (hi : i < 6) : w.cell? ⟨q, 3 + i, none⟩ = some (.bool (l.full.getD i false)) := by
  rw [s.cell, show 3 + i = i + 1 + 1 + 1 from by omega]
  simp only [lc, List.getElem?_cons_succ]
  rw [List.getElem?_append_left (by simp [s.hf]; exact hi)]
  simp [List.getD_eq_getElem?_getD, s.hf, hi]
theorem LR.c9 (s : LR w q v l) : w.cell? ⟨q, 9, none⟩ = some (.bool l.well) := by
  rw [s.cell, show 9 = 6 + 1 + 1 + 1 from rfl]
  simp only [lc, List.getElem?_cons_succ]
  rw [List.getElem?_append_right (by simp [s.hf])]
  simp [s.hf]
theorem LR.set (s : LR w q v l) (i : Nat) (u : Value) : (w.setCell ⟨q, i, none⟩ u).heap[q]? = some (.cells ((lc v l).set i u).toArray 60 (0, 0)) := by
  simp [World.setCell, Array.getElem?_modify, s.b]
theorem LR.set2 (s : LR w q v l) (v' : Value) (st : List Int) : LR (w.setCell ⟨q, 2, none⟩ v') q v' { l with stk := st } := ⟨s.set 2 _, s.hf⟩
theorem LR.set01 (s : LR w q v l) (x : Int × Int) : LR ((w.setCell ⟨q, 0, none⟩ (.string (cs (l.code ++ [x])))).setCell ⟨q, 1, none⟩ (.int .i64 ((l.code.length : Int) + 1))) q v { l with code := l.code ++ [x] } := by
  refine ⟨?_, s.hf⟩
  have h1 := s.set 0 (.string (cs (l.code ++ [x])))
  have h2 : ((w.setCell ⟨q, 0, none⟩ (.string (cs (l.code ++ [x])))).setCell ⟨q, 1, none⟩ (.int .i64 ((l.code.length : Int) + 1))).heap[q]? = some (.cells (((lc v l).set 0 (.string (cs (l.code ++ [x])))).set 1 (.int .i64 ((l.code.length : Int) + 1))).toArray 60 (0, 0)) := by
    simp [World.setCell, Array.getElem?_modify, s.b]
  rw [h2]
  simp [lc]
theorem LR.setf (s : LR w q v l) (i : Nat) (hi : i < 6) (b : Bool) : LR (w.setCell ⟨q, 3 + i, none⟩ (.bool b)) q v { l with full := l.full.set i b } := by
  refine ⟨?_, by simp [s.hf]⟩
  rw [s.set, show 3 + i = i + 1 + 1 + 1 from by omega]
  simp only [lc, List.set_cons_succ]
  rw [List.set_append, if_pos (by simp [s.hf]; exact hi), List.map_set]
theorem LR.set9 (s : LR w q v l) (b : Bool) : LR (w.setCell ⟨q, 9, none⟩ (.bool b)) q v { l with well := b } := by
  refine ⟨?_, s.hf⟩
  rw [s.set, show 9 = 6 + 1 + 1 + 1 from rfl]
  simp only [lc, List.set_cons_succ]
  rw [List.set_append, if_neg (by simp [s.hf])]
  simp [s.hf]
theorem LR.below (s : LR w q v l) {B : Nat} (hb : Below B w w') (hq : q < B) : LR w' q v l := ⟨(hb.block q hq).trans s.b, s.hf⟩
theorem LR.kept (s : LR w q v l) {r : Option Nat} (hg : w.grownBy w' r) (hr : some q ≠ r) : LR w' q v l := ⟨(hg.block q s.lt hr).trans s.b, s.hf⟩
theorem LR.alike (s : LR w q v l) (ha : w'.heap = w.heap) : LR w' q v l := ⟨by rw [ha]; exact s.b, s.hf⟩
end

def iv (l : List Int) : List Value := l.map (Value.int .i64)
/-- the line, with its stack. -/
def LO (w : World) (q : Nat) (l : Ln.L) : Prop := ∃ v, LR w q v l ∧ w.ownsRow (q + 1) 3 1 v l.stk.length (iv l.stk)

/-- what a call on the line leaves. -/
def LDone (w w' : World) (q : Nat) (l : Ln.L) (e : Ending) : Prop := e = .returned (.tuple #[]) ∧ LO w' q l ∧ Below q w w'

theorem below_alike {B : Nat} {w w1 w' : World} (hb : Below B w w1) (ha : Alike w1 w') : Below B w w' :=
  ⟨ha.2.1.trans hb.os, ha.2.2.1.trans hb.tape, ha.2.2.2.trans hb.output, by rw [ha.1]; exact hb.size, fun k hk => by rw [ha.1]; exact hb.block k hk⟩
theorem LO.alike {w w' : World} {q : Nat} {l : Ln.L} (h : LO w q l) (ha : w'.heap = w.heap) : LO w' q l := by
  obtain ⟨v, s, ho⟩ := h
  exact ⟨v, s.alike ha, owns_block ho fun k _ => by rw [ha]⟩
theorem LDone.alike {w w1 w' : World} {q : Nat} {l : Ln.L} {e : Ending} (h : LDone w w1 q l e) (ha : Alike w1 w') : LDone w w' q l e :=
  ⟨h.1, h.2.1.alike ha.1, below_alike h.2.2 ha⟩

set_option maxHeartbeats 1000000 in
theorem kone_any (k : Int) (w : World) :
    Calls Try.prog 30 #[.int .i64 k] w fun e w' => e = .returned (.string (one8 k)) ∧ Below w.heap.size w w' := by
  have o0 := owns_new w (.int .u8 (k % 256)) 5
  have b0 := (Below.refl w.heap.size w).alloc (Nat.le_refl _) (.cells #[.int .u8 (k % 256)] 5)
  have hcv := wr_string (l := [Pu.byte k]) (by simpa [bv, byte_val] using o0)
  obtain ⟨s, hs⟩ : ∃ s : ByteArray, s = ⟨([Pu.byte k] : List UInt8).toArray⟩ := ⟨_, rfl⟩
  rw [← hs] at hcv
  have HS := hid hs
  clear hs o0
  go_enter Try.func30, Try.ntmps30
  go_wp2
  go_ret
  refine ⟨?_, b0⟩
  rw [show one8 k = s from HS.out.symm]
  rfl

set_option maxHeartbeats 1000000 in
theorem kmayDrop_any (k : Int) (w : World) :
    Calls Try.prog 58 #[.int .i64 k] w fun e w' => e = .returned (.bool (Ln.mayDrop k)) ∧ w' = w := by
  go_enter Try.func58, Try.ntmps58
  go_wp2
  all_goals (go_ret; simp_all [Ln.mayDrop])
  rw [Bool.eq_iff_iff]
  simp
  omega

set_option maxHeartbeats 1000000 in
theorem kmayCopy_any (k : Int) (w : World) :
    Calls Try.prog 92 #[.int .i64 k] w fun e w' => e = .returned (.bool (Ln.mayCopy k)) ∧ w' = w := by
  go_enter Try.func92, Try.ntmps92
  go_wp2
  all_goals (go_ret; simp_all [Ln.mayCopy])
  rw [Bool.eq_iff_iff]
  simp
  omega

set_option maxHeartbeats 1000000 in
theorem kplaces_any (i : Nat) (hi : i < 6) (w : World) :
    Calls Try.prog 59 #[.int .i64 i] w fun e w' => e = .returned (.int .i64 (Ln.place i)) ∧ w' = w := by
  have : i = 0 ∨ i = 1 ∨ i = 2 ∨ i = 3 ∨ i = 4 ∨ i = 5 := by omega
  rcases this with rfl | rfl | rfl | rfl | rfl | rfl <;>
  · go_enter Try.func59, Try.ntmps59
    go_wp2
    go_ret
    simp [Ln.place]

set_option maxHeartbeats 1000000 in
theorem kpick_any (c n : Int) (hc : -9223372036854775808 ≤ c ∧ c ≤ 9223372036854775807) (hn : 1 ≤ n ∧ n ≤ 1000000) (w : World) :
    Calls Try.prog 21 #[.int .i64 c, .int .i64 n] w fun e w' => e = .returned (.int .i64 (Ln.pick c n)) ∧ w' = w := by
  unfold Ln.pick
  by_cases h : c < 0
  · rw [if_pos h]
    have e1 : wrap64 (c + 1) = c + 1 := by unfold wrap64; omega
    have e2 : wrap64 (-(c + 1)) = -(c + 1) := by unfold wrap64; omega
    have e3 : (-(c + 1)).tmod n = (-(c + 1)) % n := Int.tmod_eq_emod_of_nonneg (by omega)
    go_enter Try.func21, Try.ntmps21
    go_wp2
    go_ret
    rw [← e3]
    simp
  · rw [if_neg h]
    go_enter Try.func21, Try.ntmps21
    go_wp2
    go_ret
    simp

theorem drew_b {w w' : World} (h : Below w.drew.heap.size w.drew w') : Below w.heap.size w w' := ⟨h.os, h.tape, h.output, h.size, h.block⟩
/-- what write hangs on. -/
def WP (W0 : World) (q : Nat) (s : ByteArray) (w' : World) : Prop := Below W0.heap.size W0 w' ∧ w'.cell? ⟨q, 0, none⟩ = some (.string s) ∧ w'.frozen? ⟨q, 0, none⟩ = false
theorem WP.step {W0 w1 w2 : World} {q : Nat} {s : ByteArray} (hq : q < W0.heap.size) (h : WP W0 q s w1) (hb : Below w1.heap.size w1 w2) : WP W0 q s w2 := by
  obtain ⟨h1, h2, h3⟩ := h
  exact ⟨h1.trans (hb.mono h1.size), (hb.cell (p := ⟨q, 0, none⟩) (Nat.lt_of_lt_of_le hq h1.size)).trans h2, (hb.frozen (p := ⟨q, 0, none⟩) (Nat.lt_of_lt_of_le hq h1.size)).trans h3⟩

set_option maxRecDepth 100000 in
set_option maxHeartbeats 1000000 in
theorem kwrite_any (q : Nat) (op arg : Int) (l : Ln.L) (w : World) (h : LO w q l) (hl : l.code.length ≤ 1000) :
    Calls Try.prog 28 #[.pointer (some ⟨q, 0, none⟩), .int .i64 op, .int .i64 arg] w fun e w' => LDone w w' q (Ln.write op arg l) e := by
  obtain ⟨v, s, ho⟩ := h
  have hq := s.lt
  have s1 := cs_size l.code
  have HR : Hid (cs l.code ++ one8 op ++ one8 arg = cs (l.code ++ [(op, arg)])) := hid (cs_snoc l.code (op, arg))
  have s2 : (one8 op).size = 1 := rfl
  have s3 : (one8 arg).size = 1 := rfl
  have t1 : (9223372036854775807 < 2 * l.code.length + 1) = False := by simp; omega
  have t2 : (9223372036854775807 < 2 * l.code.length + 1 + 1) = False := by simp; omega
  have wa : wrap64 ((l.code.length : Int) + 1) = (l.code.length : Int) + 1 := by unfold wrap64; omega
  have fin : ∀ w', Below w.heap.size w w' → LDone w (((w'.setCell ⟨q, 0, none⟩ (.string (cs l.code ++ one8 op ++ one8 arg)))).setCell ⟨q, 1, none⟩ (.int .i64 ((l.code.length : Int) + 1))) q (Ln.write op arg l) (.returned (.tuple #[])) := by
    intro w' hb
    rw [HR.out]
    refine ⟨rfl, ⟨v, (s.below hb hq).set01 (op, arg), ?_⟩, ((hb.mono (Nat.le_of_lt hq)).setCell (Nat.le_refl _) _).setCell (Nat.le_refl _) _⟩
    refine owns_block ho fun k hk => ?_
    have hk2 := ho.lt k hk
    rw [Below.heap_setCell _ _ _ _ (by show k ≠ q; omega), Below.heap_setCell _ _ _ _ (by show k ≠ q; omega)]
    exact hb.block k hk2.2
  have FIN := hid fin
  have d0 := s.c0
  have z0 := s.fz 0
  have D1 := hid fun w' => kone_any op w'
  have D2 := hid fun w' => kone_any arg w'
  have cc1 := fun w' (hb : Below w.heap.size w w') => (s.below hb hq).c1
  have C1 := hid cc1
  have zz := fun w' (hb : Below w.heap.size w w') (i : Nat) => (s.below hb hq).fz i
  have Z1 := hid zz
  clear fin s ho cc1 zz
  generalize cs l.code = SC at *
  generalize one8 op = S1 at *
  generalize one8 arg = S2 at *
  go_enter Try.func28, Try.ntmps28
  go_wp2_with fail
  go_region_with (first | (go_at_call 30; (with_reducible show Calls _ _ #[.int .i64 op] _ _; refine (D1.out _).mono ?_; rintro e w3 ⟨rfl, hb3d⟩; have hb3 := drew_b hb3d; have e3 := (hb3.cell (p := ⟨q, 0, none⟩) hq).trans d0; have f3 := (hb3.frozen (p := ⟨q, 0, none⟩) hq).trans z0; have q3 : q < w3.heap.size := Nat.lt_of_lt_of_le hq hb3.size)) | (go_at_call 30; with_reducible show Calls _ _ #[.int .i64 arg] _ _; refine (D2.out _).mono ?_; rintro e w4 ⟨rfl, hb4⟩; have e4 := (hb4.cell (p := ⟨q, 0, none⟩) q3).trans e3; have f4 := (hb4.frozen (p := ⟨q, 0, none⟩) q3).trans f3))
  all_goals (
    have hb5 : Below w.heap.size w w4 := hb3.trans (hb4.mono hb3.size)
    have g1 := C1.out _ hb5
    have g2 := Z1.out _ hb5 1
    have FF := hid (FIN.out w4 hb5)
    clear hb3d hb3 hb4 hb5 e3 e4 f3 f4 q3 FIN C1 Z1 D1 D2 d0 z0
    go_wp2
    go_end0
    exact FF.out)
end Go.Proofs.Ytjamgmbdilkbcaa
