/- The document's Encode: small, put. -/
import Derived.Test.YtjamgmbdilkbcaaPure4
import Derived.Test.YtjamgmbdilkbcaaRef4
import Derived.Test.YtjamgmbdilkbcaaLaw1
namespace Go.Proofs.Ytjamgmbdilkbcaa
open Go.RowKit

set_option maxHeartbeats 400000 in
theorem small_any (l : List Int) (v : Value) (B : Nat) (w : World) (h : IntsR w B v l) (hl : l.length ≤ maxLen) :
    Calls Try.prog 72 #[v] w fun e w' => e = .returned (.bool (Pu.smallL l)) ∧ w' = w := by
  obtain ⟨ao, cap, b, off, rfl, h1, h2⟩ := h
  unfold maxLen at hl
  go_enter Try.func72, Try.ntmps72
  go_wp2
  go_loop [3] (fun i => ∃ k : Nat, k ≤ l.length ∧ i = .int .i64 k ∧ (l.take k).all Pu.isB = true) (fun i => l.length - (intOf i).toNat)
  case atStart => exact ⟨0, Nat.zero_le _, rfl, by simp⟩
  case round =>
    obtain ⟨k, hk, rfl, ha⟩ := hrel
    by_cases hlt : k < l.length
    · obtain ⟨rfl, hbB⟩ := h1 (by omega)
      have hc := h2 k hlt
      clear h1 h2
      have HT : Hid _ := take_all_snoc l Pu.isB k 0 hlt
      have HF : Hid _ := all_false_of l Pu.isB k 0 hlt
      have HA : Hid _ := ha
      clear ha
      generalize l.getD k 0 = x at *
      by_cases hx0 : x < 0
      · go_wp2
        go_ret
        exact ⟨ret_bool (by rw [Pu.smallL, HF.out (by simp [Pu.isB]; omega)]; rfl), rfl⟩
      · by_cases hx1 : 255 < x
        · go_wp2
          go_ret
          exact ⟨ret_bool (by rw [Pu.smallL, HF.out (by simp [Pu.isB]; omega)]; rfl), rfl⟩
        · go_wp2
          go_round
          case rel => exact ⟨k + 1, hlt, by go_num, by rw [HT.out, HA.out]; simp [Pu.isB]; omega⟩
          case measure => simp [intOf]; omega
    · have HA : Hid _ := ha
      clear ha
      have hle : (l.take k).all Pu.isB = l.all Pu.isB := by rw [List.take_of_length_le (by omega)]
      have HLE : Hid _ := hle
      clear hle
      by_cases hl2 : l.length < 256
      · go_wp2
        go_ret
        exact ⟨ret_bool (by rw [Pu.smallL, ← HLE.out, HA.out]; simp; omega), rfl⟩
      · go_wp2
        go_ret
        exact ⟨ret_bool (by rw [Pu.smallL, show decide (l.length < 256) = false from by simp; omega, Bool.and_false]; symm; simp; omega), rfl⟩

theorem bv_snoc (l : List UInt8) (c : UInt8) : bv (l ++ [c]) = bv l ++ [.int .u8 (c.toNat : Int)] := by simp [bv]

theorem byte_val (n : Int) : ((Pu.byte n).toNat : Int) = n % 256 := by
  unfold Pu.byte
  rw [UInt8.toNat_ofNat']
  omega

theorem owns_new (w : World) (v : Value) (e : TypeId) : (w.alloc (.cells #[v] e)).ownsRow w.heap.size e 1 (.slice (some ⟨w.heap.size, 0, none⟩) 1 1) 1 [v] :=
  ⟨rfl, .inr ⟨w.heap.size, 1, #[v], rfl, Nat.le_refl _, heap_alloc_new w _, Nat.le_refl _, by decide, rfl, rfl⟩⟩

set_option maxHeartbeats 400000 in
theorem put_any (l : List Int) (v : Value) (w : World) (h : IntsR w w.heap.size v l) (hl : l.length ≤ 1000000) :
    Calls Try.prog 73 #[v] w fun e w' => e = .returned (.string ⟨(Pu.wList l).toArray⟩) ∧ Below w.heap.size w w' := by
  obtain ⟨i0, hi0, hz0, hz1, hz2⟩ := info_parts Try.info5
  obtain ⟨ao, cap, b, off, rfl, h1, h2⟩ := h
  have H1 : Hid _ := h1
  have H2 : Hid _ := h2
  clear h1 h2
  go_enter Try.func73, Try.ntmps73
  have o0 := owns_new w (.int .u8 ((l.length : Int) % 256)) 5
  have b0 := (Below.refl w.heap.size w).alloc (Nat.le_refl _) (.cells #[.int .u8 ((l.length : Int) % 256)] 5)
  go_wp2
  go_loopw [3, 4] (fun g i wr => ∃ k : Nat, k ≤ l.length ∧ i = .int .i64 k ∧ wr.ownsRow w.heap.size 5 1 g (k + 1) (bv (Pu.byte l.length :: (l.map Pu.byte).take k)) ∧ Below w.heap.size w wr) (fun _ i _ => l.length - (intOf i).toNat)
  case atStart => exact ⟨0, Nat.zero_le _, rfl, by simpa [bv, byte_val] using o0, b0⟩
  case round =>
    obtain ⟨k, hk, rfl, ho, hb⟩ := hrel
    clear o0 b0
    obtain ⟨ag, cg, rfl⟩ := owns_shape ho
    by_cases hlt : k < l.length
    · obtain ⟨rfl, hbB⟩ := H1.out (by omega)
      have hc := (hb.cell (p := ⟨b, off + k, none⟩) hbB).trans (H2.out k hlt)
      have HT : Hid (bv (Pu.byte l.length :: (l.map Pu.byte).take (k + 1)) = bv (Pu.byte l.length :: (l.map Pu.byte).take k) ++ [.int .u8 (l.getD k 0 % 256)]) := by
        show _ = _
        rw [List.take_succ_eq_append_getElem (by simpa using hlt), List.getD_eq_getElem?_getD, List.getElem?_eq_getElem hlt, ← List.cons_append, bv_snoc, List.getElem_map, byte_val]
        rfl
      generalize l.getD k 0 = x at *
      have hz := hb.size
      have oa := ho.alloc (.cells #[.int .u8 (x % 256)] 5)
      go_wp2_with (at_builtin; refine wpList_append_own _ rfl _ _ 122 rfl w.heap.size 5 i0 (.int .u8 0) 1 1 Try.underlying122 hi0 hz0 hz1 hz2 rfl (by decide) _ _ _ rfl oa ⟨wr.heap.size, 0, none⟩ 1 1 [.int .u8 (x % 256)] rfl rfl (cell_one_new _ _ _) ?c2 ?c3 ?c4 ?c5 ?_)
      case c2 => first | rfl | (intro u hu; simp at hu; subst hu; rfl)
      case c3 => unfold maxLen; omega
      case c4 => omega
      case c5 => first | omega | (simp only [World.size_alloc]; omega)
      intro v' w1 hown' hgrow _
      have hb1 : Below w.heap.size w w1 := (hb.alloc hz _).grown hgrow (by simp only [World.size_alloc]; omega) (fun k hk => (ho.lt k hk).1)
      rw [← HT.out] at hown'
      clear hgrow ho hb hc oa HT
      obtain ⟨ag2, cg2, rfl⟩ := owns_shape hown'
      go_wp2
      go_roundw
      case rel => exact ⟨k + 1, hlt, by go_num, hown', hb1⟩
      case measure => simp [intOf]; omega
    · have hk2 : k = l.length := by omega
      subst hk2
      have hcv := wr_string (l := Pu.wList l) (by simpa [Pu.wList, List.take_of_length_le] using ho)
      obtain ⟨s, hs⟩ : ∃ s : ByteArray, s = ⟨(Pu.wList l).toArray⟩ := ⟨_, rfl⟩
      rw [← hs] at hcv
      have HS : Hid _ := hs
      clear ho hs
      go_wp2
      go_ret
      rw [← HS.out]
      exact ⟨rfl, hb⟩
end Go.Proofs.Ytjamgmbdilkbcaa
