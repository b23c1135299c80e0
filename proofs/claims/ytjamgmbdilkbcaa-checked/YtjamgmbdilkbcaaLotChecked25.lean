import Derived.Test.YtjamgmbdilkbcaaLotChecked24
import Derived.Test.YtjamgmbdilkbcaaLotChecked23
import Derived.Test.YtjamgmbdilkbcaaLotChecked07
/- The document's Encode: small, put. -/
namespace Go.Proofs.Ytjamgmbdilkbcaa
open Go.RowKit

set_option maxHeartbeats 400000 in
theorem small_any (l : List Int) (v : Value) (B : Nat) (w : World) (h : IntsR w B v l) (hl : l.length ≤ maxLen) :
    Calls Try.prog 72 #[v] w fun e w' => e = .returned (.bool (Pu.smallL l)) ∧ w' = w := by
  obtain ⟨ao, cap, b, off, rfl, h1, h2⟩ := h
  unfold maxLen at hl
  go_enter Try.func72, Try.ntmps72
  go_wp2
  go_loop [3] (fun i => ∃ k : Nat, k ≤ l.length ∧ i = .int .i64 k ∧ (l.take k).all Pu.isB = true) (fun i => l.length - (intOf i).toNat)
  case atStart => exact ⟨0, Nat.zero_le _, rfl, by simp⟩
  case round =>
    obtain ⟨k, hk, rfl, ha⟩ := hrel
    by_cases hlt : k < l.length
    · obtain ⟨rfl, hbB⟩ := h1 (by omega)
      have hc := h2 k hlt
      clear h1 h2
      have HT : Hid _ := take_all_snoc l Pu.isB k 0 hlt
      have HF : Hid _ := all_false_of l Pu.isB k 0 hlt
      have HA : Hid _ := ha
      clear ha
      generalize l.getD k 0 = x at *
      by_cases hx0 : x < 0
      · go_wp2
        go_ret
        exact ⟨ret_bool (by rw [Pu.smallL, HF.out (by simp [Pu.isB]; omega)]; rfl), rfl⟩
      · by_cases hx1 : 255 < x
        · go_wp2
          go_ret
          exact ⟨ret_bool (by rw [Pu.smallL, HF.out (by simp [Pu.isB]; omega)]; rfl), rfl⟩
        · go_wp2
          go_round
          case rel => exact ⟨k + 1, hlt, by go_num, by rw [HT.out, HA.out]; simp [Pu.isB]; omega⟩
          case measure => simp [intOf]; omega
    · have HA : Hid _ := ha
      clear ha
      have hle : (l.take k).all Pu.isB = l.all Pu.isB := by rw [List.take_of_length_le (by omega)]
      have HLE : Hid _ := hle
      clear hle
      by_cases hl2 : l.length < 256
      · go_wp2
        go_ret
        exact ⟨ret_bool (by rw [Pu.smallL, ← HLE.out, HA.out]; simp; omega), rfl⟩
      · go_wp2
        go_ret
        exact ⟨ret_bool (by rw [Pu.smallL, show decide (l.length < 256) = false from by simp; omega, Bool.and_false]; symm; simp; omega), rfl⟩

theorem bv_snoc (l : List UInt8) (c : UInt8) : bv (l ++ [c]) = bv l ++ [.int .u8 (c.toNat : Int)] := by simp [bv]

theorem byte_val (n : Int) : ((Pu.byte n).toNat : Int) = n % 256 := by
  unfold Pu.byte
  rw [UInt8.toNat_ofNat']
  omega

theorem owns_new (w : World) (v : Value) (e : TypeId) : (w.alloc (.cells #[v] e)).ownsRow w.heap.size e 1 (.slice (some ⟨w.heap.size, 0, none⟩) 1 1) 1 [v] :=
  ⟨rfl, .inr ⟨w.heap.size, 1, #[v], rfl, Nat.le_refl _, heap_alloc_new w _, Nat.le_refl _, by decide, rfl, rfl⟩⟩

set_option maxHeartbeats 400000 in
theorem put_any (l : List Int) (v : Value) (w : World) (h : IntsR w w.heap.size v l) (hl : l.length ≤ 1000000) :
    Calls Try.prog 73 #[v] w fun e w' => e = .returned (.string ⟨(Pu.wList l).toArray⟩) ∧ Below w.heap.size w w' := by
  obtain ⟨i0, hi0, hz0, hz1, hz2⟩ := info_parts Try.info5
  obtain ⟨ao, cap, b, off, rfl, h1, h2⟩ := h
  have H1 : Hid _ := h1
  have H2 : Hid _ := h2
  clear h1 h2
  go_enter Try.func73, Try.ntmps73
  have o0 := owns_new w (.int .u8 ((l.length : Int) % 256)) 5
  have b0 := (Below.refl w.heap.size w).alloc (Nat.le_refl _) (.cells #[.int .u8 ((l.length : Int) % 256)] 5)
  go_wp2
  go_loopw [3, 4] (fun g i wr => ∃ k : Nat, k ≤ l.length ∧ i = .int .i64 k ∧ wr.ownsRow w.heap.size 5 1 g (k + 1) (bv (Pu.byte l.length :: (l.map Pu.byte).take k)) ∧ Below w.heap.size w wr) (fun _ i _ => l.length - (intOf i).toNat)
  case atStart => exact ⟨0, Nat.zero_le _, rfl, by simpa [bv, byte_val] using o0, b0⟩
  case round =>
    obtain ⟨k, hk, rfl, ho, hb⟩ := hrel
    clear o0 b0
    obtain ⟨ag, cg, rfl⟩ := owns_shape ho
    by_cases hlt : k < l.length
    · obtain ⟨rfl, hbB⟩ := H1.out (by omega)
      have hc := (hb.cell (p := ⟨b, off + k, none⟩) hbB).trans (H2.out k hlt)
      have HT : Hid (bv (Pu.byte l.length :: (l.map Pu.byte).take (k + 1)) = bv (Pu.byte l.length :: (l.map Pu.byte).take k) ++ [.int .u8 (l.getD k 0 % 256)]) := by
        show _ = _
        rw [List.take_succ_eq_append_getElem (by simpa using hlt), List.getD_eq_getElem?_getD, List.getElem?_eq_getElem hlt, ← List.cons_append, bv_snoc, List.getElem_map, byte_val]
        rfl
      generalize l.getD k 0 = x at *
      have hz := hb.size
      have oa := ho.alloc (.cells #[.int .u8 (x % 256)] 5)
      go_wp2_with (at_builtin; refine wpList_append_own _ rfl _ _ 122 rfl w.heap.size 5 i0 (.int .u8 0) 1 1 Try.underlying122 hi0 hz0 hz1 hz2 rfl (by decide) _ _ _ rfl oa ⟨wr.heap.size, 0, none⟩ 1 1 [.int .u8 (x % 256)] rfl rfl (cell_one_new _ _ _) ?c2 ?c3 ?c4 ?c5 ?_)
      case c2 => first | rfl | (intro u hu; simp at hu; subst hu; rfl)
      case c3 => unfold maxLen; omega
      case c4 => omega
      case c5 => first | omega | (simp only [World.size_alloc]; omega)
      intro v' w1 hown' hgrow _
      have hb1 : Below w.heap.size w w1 := (hb.alloc hz _).grown hgrow (by simp only [World.size_alloc]; omega) (fun k hk => (ho.lt k hk).1)
      rw [← HT.out] at hown'
      clear hgrow ho hb hc oa HT
      obtain ⟨ag2, cg2, rfl⟩ := owns_shape hown'
      go_wp2
      go_roundw
      case rel => exact ⟨k + 1, hlt, by go_num, hown', hb1⟩
      case measure => simp [intOf]; omega
    · have hk2 : k = l.length := by omega
      subst hk2
      have hcv := wr_string (l := Pu.wList l) (by simpa [Pu.wList, List.take_of_length_le] using ho)
      obtain ⟨s, hs⟩ : ∃ s : ByteArray, s = ⟨(Pu.wList l).toArray⟩ := ⟨_, rfl⟩
      rw [← hs] at hcv
      have HS : Hid _ := hs
      clear ho hs
      go_wp2
      go_ret
      rw [← HS.out]
      exact ⟨rfl, hb⟩
end Go.Proofs.Ytjamgmbdilkbcaa

/- The document's Check: letter, letters. -/
namespace Go.Proofs.Ytjamgmbdilkbcaa
open Go.RowKit

/-- a kind as a letter. -/
def lt (k : Int) : UInt8 := Pu.byte (48 + k)
def str (l : List Int) : ByteArray := ⟨(l.map lt).toArray⟩
theorem str_size (l : List Int) : (str l).size = l.length := by simp [str, ByteArray.size]
theorem str_append (a b : List Int) : str a ++ str b = str (a ++ b) := by
  apply ByteArray.ext
  simp [str, ByteArray.data_append]

set_option maxHeartbeats 1000000 in
theorem rletter_any (k : Int) (w : World) (h : -1000 ≤ k ∧ k ≤ 1000) :
    Calls Try.prog 117 #[.int .i64 k] w fun e w' => e = .returned (.string (str [k])) ∧ Below w.heap.size w w' := by
  have o0 := owns_new w (.int .u8 ((48 + k) % 256)) 5
  have b0 := (Below.refl w.heap.size w).alloc (Nat.le_refl _) (.cells #[.int .u8 ((48 + k) % 256)] 5)
  have hcv := wr_string (l := [lt k]) (by simpa [bv, lt, byte_val] using o0)
  obtain ⟨s, hs⟩ : ∃ s : ByteArray, s = ⟨([lt k] : List UInt8).toArray⟩ := ⟨_, rfl⟩
  rw [← hs] at hcv
  have HS := hid hs
  clear hs o0
  go_enter Try.func117, Try.ntmps117
  go_wp2
  go_ret
  refine ⟨?_, b0⟩
  rw [show str [k] = s from HS.out.symm]
  rfl

set_option maxRecDepth 100000 in
set_option maxHeartbeats 1000000 in
theorem rletters_any (l : List Int) (v : Value) (w : World) (h : IntsR w w.heap.size v l) (hl : l.length ≤ 1000) (hk : ∀ k ∈ l, -1000 ≤ k ∧ k ≤ 1000) :
    Calls Try.prog 104 #[v] w fun e w' => e = .returned (.string (str l)) ∧ Below w.heap.size w w' := by
  obtain ⟨ao, cap, b, off, rfl, h1, h2⟩ := h
  have H1 := hid h1
  have H2 := hid h2
  have HK := hid hk
  clear h1 h2 hk
  go_enter Try.func104, Try.ntmps104
  go_wp2
  go_loopw [3, 4] (fun s i wr => ∃ k : Nat, k ≤ l.length ∧ i = .int .i64 k ∧ s = .string (str (l.take k)) ∧ Below w.heap.size w wr) (fun _ i _ => l.length - (intOf i).toNat)
  case atStart => exact ⟨0, Nat.zero_le _, rfl, rfl, Below.refl _ _⟩
  case round =>
    obtain ⟨k, hk, rfl, rfl, hb⟩ := hrel
    by_cases hlt : k < l.length
    · obtain ⟨rfl, hbB⟩ := H1.out (by omega)
      have hc := (hb.cell (p := ⟨b, off + k, none⟩) hbB).trans (H2.out k hlt)
      have HT : Hid (str (l.take k) ++ str [l.getD k 0] = str (l.take (k + 1))) := by
        show _ = _
        rw [str_append, List.take_succ_eq_append_getElem hlt, List.getD_eq_getElem?_getD, List.getElem?_eq_getElem hlt]
        rfl
      have hkk := HK.out (l.getD k 0) (by rw [List.getD_eq_getElem?_getD, List.getElem?_eq_getElem hlt]; exact List.getElem_mem hlt)
      have hsz := str_size (l.take k)
      rw [List.length_take] at hsz
      generalize l.getD k 0 = x at *
      generalize str (l.take k) = S at *
      have hx1 : (str [x]).size = 1 := str_size [x]
      have t1 : (9223372036854775807 < S.size + 1) = False := by simp; omega
      go_wp2_with fail
      refine (rletter_any x wr hkk).mono ?_
      rintro e w3 ⟨rfl, hb3⟩
      have hb4 := hb.trans (hb3.mono hb.size)
      clear hb hb3 hc
      generalize str [x] = X at *
      go_wp2
      go_roundw
      case rel => exact ⟨k + 1, hlt, by go_num, by rw [← HT.out], hb4⟩
      case measure => simp [intOf]; omega
    · have hkl : k = l.length := by omega
      subst hkl
      rw [List.take_of_length_le (Nat.le_refl _)]
      go_wp2
      go_ret
      exact ⟨rfl, hb⟩

set_option maxRecDepth 100000 in
set_option maxHeartbeats 1000000 in
theorem rmay_any (m : Pu.Md) (mk mv : Value) (k what : Int) (w : World) (hm : MdR w w.heap.size mk mv m) (hk : 0 ≤ k ∧ k ≤ m.kinds.length) :
    Calls Try.prog 121 #[.agg #[mk, mv], .int .i64 k, .int .i64 what] w fun e w' => e = .returned (.bool (Fl.may m k what)) ∧ Below w.heap.size w w' := by
  obtain ⟨a2, c2, rfl⟩ := hm.v.shape
  obtain ⟨ao, cap, b, off, hkv, h1, h2⟩ := hm.k
  subst hkv
  have hnk := hm.nk
  unfold maxLen at hnk
  have bl0 := (Below.refl w.heap.size w).alloc (Nat.le_refl _) (.cells #[.slice ao m.kinds.length cap, .slice a2 m.funcs.length c2] 33)
  by_cases h0 : k = 0
  · subst h0
    have hm0 : Fl.may m 0 what = true := by simp [Fl.may]
    rw [hm0]
    go_enter Try.func121, Try.ntmps121
    go_wp2
    go_ret
    exact ⟨rfl, bl0⟩
  · obtain ⟨n, rfl⟩ : ∃ n : Nat, k = n + 1 := ⟨(k - 1).toNat, by omega⟩
    obtain ⟨rfl, hbl⟩ := h1 (by omega)
    have c1 := h2 n (by omega)
    have HM : Hid (Fl.may m ((n : Int) + 1) what = decide (m.kinds.getD n 0 = 3 ∨ m.kinds.getD n 0 = what)) := by
      show _ = _
      simp only [Fl.may]
      rw [if_pos (by omega), show ((n : Int) + 1 - 1).toNat = n from by omega]
    generalize m.kinds.getD n 0 = z at *
    rw [HM.out]
    clear HM h1 h2
    go_enter Try.func121, Try.ntmps121
    by_cases hz : z = 3
    · subst hz
      go_wp2
      go_ret
      exact ⟨by simp, bl0⟩
    · by_cases hzw : z = what
      · subst hzw
        go_wp2
        go_ret
        exact ⟨by simp, bl0⟩
      · go_wp2
        go_ret
        exact ⟨by simp [hz, hzw], bl0⟩

theorem lt_inj {a b : Int} (ha : 0 ≤ a ∧ a ≤ 100) (hb : 0 ≤ b ∧ b ≤ 100) (h : lt a = lt b) : a = b := by
  have h2 := congrArg (fun x => (x.toNat : Int)) h
  simp only [lt, byte_val] at h2
  omega
def Low (l : List Int) : Prop := ∀ k ∈ l, 0 ≤ k ∧ k ≤ 100
theorem map_lt_inj : ∀ {a b : List Int}, Low a → Low b → a.map lt = b.map lt → a = b
  | [], [], _, _, _ => rfl
  | [], _ :: _, _, _, h => by simp at h
  | _ :: _, [], _, _, h => by simp at h
  | x :: a, y :: b, ha, hb, h => by
    simp only [List.map_cons, List.cons.injEq] at h
    rw [lt_inj (ha x (by simp)) (hb y (by simp)) h.1, map_lt_inj (fun k hk => ha k (by simp [hk])) (fun k hk => hb k (by simp [hk])) h.2]
theorem str_inj {a b : List Int} (ha : Low a) (hb : Low b) (h : str a = str b) : a = b := by
  refine map_lt_inj ha hb ?_
  have := congrArg (fun x : ByteArray => x.data.toList) h
  simpa [str] using this

theorem str_extract (s : List Int) (i j : Nat) : (str s).extract i j = str ((s.take j).drop i) := by
  apply ByteArray.ext
  simp [str, ByteArray.data_extract, List.map_drop, List.map_take]
  rw [List.drop_take]
theorem str_list (s : List Int) : (str s).toList = s.map lt := by
  simp [str, ByteArray.toList_eq]
theorem str_eq {a b : List Int} (ha : Low a) (hb : Low b) : ((str a).toList == (str b).toList) = decide (a = b) := by
  rw [str_list, str_list]
  by_cases h : a = b
  · subst h; simp
  · simp only [h, decide_false]
    rw [beq_eq_false_iff_ne]
    exact fun e => h (map_lt_inj ha hb e)

set_option maxRecDepth 100000 in
set_option maxHeartbeats 1000000 in
theorem rends_any (s l : List Int) (w : World) (hs : s.length ≤ 1000) (hl : l.length ≤ 1000) (ls : Low s) (ll : Low l) :
    Calls Try.prog 123 #[.string (str s), .string (str l)] w fun e w' => e = .returned (.bool (decide (l.length ≤ s.length ∧ s.drop (s.length - l.length) = l))) ∧ w' = w := by
  have h1 := str_size s
  have h2 := str_size l
  go_enter Try.func123, Try.ntmps123
  by_cases hle : l.length ≤ s.length
  · go_wp2
    go_ret
    refine ⟨?_, rfl⟩
    have hd : Low (s.drop (s.length - l.length)) := fun k hk => ls k (List.mem_of_mem_drop hk)
    have e1 : ((str s).extract (s.length - l.length) s.length).toList = (str (s.drop (s.length - l.length))).toList := by rw [str_extract, List.take_of_length_le (Nat.le_refl _)]
    simp [e1, str_eq hd ll, hle]
  · go_wp2
    go_ret
    refine ⟨?_, rfl⟩
    simp [hle]
end Go.Proofs.Ytjamgmbdilkbcaa

/- The document's Check: free, turn, places. -/
namespace Go.Proofs.Ytjamgmbdilkbcaa
open Go.RowKit

/-- bytes. -/
def bs (l : List UInt8) : ByteArray := ⟨l.toArray⟩
theorem bs_size (l : List UInt8) : (bs l).size = l.length := by simp [bs, ByteArray.size]
theorem bs_append (a b : List UInt8) : bs a ++ bs b = bs (a ++ b) := by
  apply ByteArray.ext
  simp [bs, ByteArray.data_append]
theorem bs_extract (s : List UInt8) (i j : Nat) : (bs s).extract i j = bs ((s.take j).drop i) := by
  apply ByteArray.ext
  simp [bs, ByteArray.data_extract]
  rw [List.drop_take]
theorem str_bs (l : List Int) : str l = bs (l.map lt) := rfl

/-- a place: its letter, or that it is empty. -/
def spot (k : Int) (b : Bool) : UInt8 := if b = true then lt k else 45
def spots (pl : List Int) (full : List Bool) : List UInt8 := List.zipWith spot pl full

theorem lt_val (k : Int) (h : 0 ≤ k ∧ k ≤ 100) : ((lt k).toNat : Int) = 48 + k := by
  unfold lt
  rw [byte_val]
  omega

set_option maxRecDepth 100000 in
set_option maxHeartbeats 1000000 in
theorem rfree_any (m : Pu.Md) (mk mv : Value) (k : Int) (b : Bool) (w : World) (hm : MdR w w.heap.size mk mv m) (hk : 0 ≤ k ∧ k ≤ m.kinds.length) (hn : m.kinds.length ≤ 100) :
    Calls Try.prog 120 #[.agg #[mk, mv], .int .u8 ((spot k b).toNat : Int)] w fun e w' => e = .returned (.bool (!b || Fl.may m k 2)) ∧ Below w.heap.size w w' := by
  obtain ⟨a1, c1, rfl⟩ := hm.k.shape
  obtain ⟨a2, c2, rfl⟩ := hm.v.shape
  have bl0 := (Below.refl w.heap.size w).alloc (Nat.le_refl _) (.cells #[.slice a1 m.kinds.length c1, .slice a2 m.funcs.length c2] 33)
  have hm0 := (hm.below bl0).wide bl0.size
  cases b with
  | false =>
    have e1 : ((spot k false).toNat : Int) = 45 := rfl
    rw [e1]
    go_enter Try.func120, Try.ntmps120
    go_wp2
    go_ret
    exact ⟨rfl, bl0⟩
  | true =>
    have e1 : ((spot k true).toNat : Int) = 48 + k := lt_val k (by omega)
    rw [e1]
    have hne : ¬ (48 + k = 45) := by omega
    have hne2 : (48 + k == 45) = false := by simpa using hne
    go_enter Try.func120, Try.ntmps120
    go_wp2_with fail
    rw [show 48 + k - 48 = k from by omega]
    refine (rmay_any m _ _ k 2 _ hm0 hk).mono ?_
    rintro e w3 ⟨rfl, hb3⟩
    have hb4 := bl0.trans (hb3.mono bl0.size)
    clear hm hm0 hb3 bl0
    go_wp2
    go_ret
    exact ⟨by simp, hb4⟩

set_option maxRecDepth 100000 in
set_option maxHeartbeats 1000000 in
theorem rturn_any (l t : List UInt8) (i : Nat) (w : World) (hi : i < l.length) (hl : l.length ≤ 1000) (ht : t.length ≤ 1000) :
    Calls Try.prog 122 #[.string (bs l), .int .i64 i, .string (bs t)] w fun e w' => e = .returned (.string (bs (l.take i ++ t ++ l.drop (i + 1)))) ∧ Alike w w' := by
  have h1 := bs_size l
  have h2 := bs_size t
  have e1 : (bs l).extract 0 i = bs (l.take i) := by rw [bs_extract]; rfl
  have e2 : (bs l).extract (i + 1) l.length = bs (l.drop (i + 1)) := by rw [bs_extract, List.take_of_length_le (Nat.le_refl _)]
  have e3 : (bs (l.take i)).size = i := by rw [bs_size, List.length_take]; omega
  have e4 : (bs (l.drop (i + 1))).size = l.length - (i + 1) := by rw [bs_size, List.length_drop]
  have HR : Hid (bs (l.take i) ++ bs t ++ bs (l.drop (i + 1)) = bs (l.take i ++ t ++ l.drop (i + 1))) := by show _ = _; rw [bs_append, bs_append]
  rw [← HR.out]
  generalize bs (l.take i) = X1 at *
  generalize bs (l.drop (i + 1)) = X2 at *
  generalize bs t = X3 at *
  have t1 : (9223372036854775807 < i + t.length) = False := by simp; omega
  have t2 : (9223372036854775807 < i + t.length + (l.length - (i + 1))) = False := by simp; omega
  go_enter Try.func122, Try.ntmps122
  go_wp2
  go_quiet (fail)
  go_wp2
  go_ret
  exact ⟨rfl, rfl, rfl, rfl, rfl⟩

theorem Low.far {l : List Int} (h : Low l) : ∀ k ∈ l, -1000 ≤ k ∧ k ≤ 1000 := fun k hk => by have := h k hk; omega

/-- a later world, in which two cells of a box are as they were. -/
abbrev PS (W0 : World) (q : Nat) (a b : Value) (w : World) : Prop := Below W0.heap.size W0 w ∧ w.cell? ⟨q, 0, none⟩ = some a ∧ w.cell? ⟨q, 2, none⟩ = some b
theorem PS.step {W0 w1 w2 : World} {q : Nat} {a b : Value} (hq : q < W0.heap.size) (h : PS W0 q a b w1) (hb : Below w1.heap.size w1 w2) : PS W0 q a b w2 := by
  have hql : q < w1.heap.size := Nat.lt_of_lt_of_le hq h.1.size
  exact ⟨h.1.trans (hb.mono h.1.size), (hb.cell (p := ⟨q, 0, none⟩) hql).trans h.2.1, (hb.cell (p := ⟨q, 2, none⟩) hql).trans h.2.2⟩

set_option maxRecDepth 100000 in
set_option maxHeartbeats 1000000 in
theorem rplaces_any (f : Pu.Fn) (x : FV) (w : World) (hf : FnR w w.heap.size x f) (hn : (Fl.places f).length ≤ 8) (hl : Low (Fl.places f)) :
    Calls Try.prog 119 #[.agg #[x.p, x.r, x.l, x.c]] w fun e w' => e = .returned (.string (str (Fl.places f))) ∧ Below w.heap.size w w' := by
  obtain ⟨x1, y1, x2, y2, x3, y3, x4, y4, rfl⟩ := hf.shape
  have b0 : F4 (w.alloc (.cells #[.slice x1 f.params.length y1, .slice x2 f.results.length y2, .slice x3 f.locals.length y3, .slice x4 f.code.length y4] 86)) w.heap.size 86 (.slice x1 f.params.length y1) (.slice x2 f.results.length y2) (.slice x3 f.locals.length y3) (.slice x4 f.code.length y4) := heap_alloc_new w _
  have bl0 := (Below.refl w.heap.size w).alloc (Nat.le_refl _) (.cells #[.slice x1 f.params.length y1, .slice x2 f.results.length y2, .slice x3 f.locals.length y3, .slice x4 f.code.length y4] 86)
  have hf0 := (hf.below bl0).wide bl0.size
  have hpl : f.params.length + f.locals.length ≤ 8 := by unfold Fl.places at hn; rw [List.length_append] at hn; exact hn
  have hl1 : Low f.params := fun k hk => hl k (List.mem_append_left _ hk)
  have hl2 : Low f.locals := fun k hk => hl k (List.mem_append_right _ hk)
  have HR : Hid (str f.params ++ str f.locals = str (Fl.places f)) := by show _ = _; rw [str_append]; rfl
  have s1 := str_size f.params
  have s2 := str_size f.locals
  have t1 : (9223372036854775807 < f.params.length + f.locals.length) = False := by simp; omega
  rw [← HR.out]
  simp only
  obtain ⟨W0, hW0⟩ : ∃ W0, W0 = w.alloc (.cells #[.slice x1 f.params.length y1, .slice x2 f.results.length y2, .slice x3 f.locals.length y3, .slice x4 f.code.length y4] 86) := ⟨_, rfl⟩
  rw [← hW0] at b0 bl0 hf0
  have HW := hid hW0
  have C1 : ∀ w', PS W0 w.heap.size (.slice x1 f.params.length y1) (.slice x3 f.locals.length y3) w' → Calls Try.prog 104 #[.slice x1 f.params.length y1] w' fun e w'' => e = .returned (.string (str f.params)) ∧ Below w'.heap.size w' w'' := fun w' hp => rletters_any f.params _ w' ((hf0.p.below hp.1).wide hp.1.size) (by omega) hl1.far
  have C2 : ∀ w', PS W0 w.heap.size (.slice x1 f.params.length y1) (.slice x3 f.locals.length y3) w' → Calls Try.prog 104 #[.slice x3 f.locals.length y3] w' fun e w'' => e = .returned (.string (str f.locals)) ∧ Below w'.heap.size w' w'' := fun w' hp => rletters_any f.locals _ w' ((hf0.l.below hp.1).wide hp.1.size) (by omega) hl2.far
  have D1 := hid C1
  have D2 := hid C2
  have hq0 : w.heap.size < W0.heap.size := b0.lt
  have S0 : PS W0 w.heap.size (.slice x1 f.params.length y1) (.slice x3 f.locals.length y3) W0.drew := ⟨(Below.refl _ _).drew, b0.c0, b0.c2⟩
  clear hl hn hW0 C1 C2 hf hf0
  generalize str f.params = SP at *
  generalize str f.locals = SL at *
  go_enter Try.func119, Try.ntmps119
  go_wp2_with fail
  rw [← HW.out]
  go_region_held3 (fun w' => Below W0.heap.size W0 w' ∧ w'.cell? ⟨w.heap.size, 0, none⟩ = some (.slice x1 f.params.length y1) ∧ w'.cell? ⟨w.heap.size, 2, none⟩ = some (.slice x3 f.locals.length y3))
    (first | exact S0 | exact PS.step hq0 (by assumption) hb3)
    (first | (go_at_call 104; with_reducible show Calls _ _ #[.slice x1 f.params.length y1] _ _; refine (D1.out _ (by assumption)).mono ?_; rintro e w3 ⟨rfl, hb3⟩) | (go_at_call 104; with_reducible show Calls _ _ #[.slice x3 f.locals.length y3] _ _; refine (D2.out _ (by assumption)).mono ?_; rintro e w3 ⟨rfl, hb3⟩))
  have hbF : Below W0.heap.size W0 w3 := (show PS W0 w.heap.size (.slice x1 f.params.length y1) (.slice x3 f.locals.length y3) w3 by assumption).1
  have hbG := bl0.trans (hbF.mono bl0.size)
  clear hbF D1 D2 S0 b0 bl0
  go_wp2
  go_ret
  exact ⟨rfl, hbG⟩
end Go.Proofs.Ytjamgmbdilkbcaa
