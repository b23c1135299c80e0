import Derived.Test.YtjamgmbdilkbcaaGreatLotLedgers10
import Derived.Test.YtjamgmbdilkbcaaGreatLotLedgers12
import Derived.Test.YtjamgmbdilkbcaaGreatLotLedgers04
/- CheckModule, Check. -/
namespace Go.Proofs.YtjamgmbdilkbcaaGreat
open Go.RowKit

theorem isMd_kinds {m : Pu.Md} (h : Pu.isMd m = true) : KindsOk m := by
  simp only [Pu.isMd, Bool.and_eq_true, decide_eq_true_eq, List.all_eq_true] at h
  obtain ⟨h1, _⟩ := h
  simp only [Pu.isList, Bool.and_eq_true, decide_eq_true_eq, List.all_eq_true] at h1
  intro k hk
  exact h1.2 k hk
theorem isMd_fn {m : Pu.Md} (h : Pu.isMd m = true) {f : Pu.Fn} (hf : f ∈ m.funcs) : FnOk m f := by
  simp only [Pu.isMd, Bool.and_eq_true, decide_eq_true_eq, List.all_eq_true] at h
  obtain ⟨_, _, _, h4⟩ := h
  have hh := h4 f hf
  simp only [Pu.isFn, Pu.isList, Pu.isCode, Bool.and_eq_true, decide_eq_true_eq, List.all_eq_true] at hh
  obtain ⟨⟨p1, _⟩, ⟨r1, _⟩, ⟨l1, _⟩, c1, c2, c3⟩ := hh
  have hi : ∀ i, i < f.code.length -> Pu.isInstr m.kinds.length m.funcs.length ((f.params.length : Int) + (f.locals.length : Int)) f.code.length (f.code.getD i (0, 0)) = true := fun i hi => by
    refine c3 _ ?_
    rw [List.getD_eq_getElem?_getD, List.getElem?_eq_getElem hi]
    exact List.getElem_mem hi
  refine ⟨by unfold Fl.places; rw [List.length_append]; omega, by omega, by omega, fun i hil => ?_, fun i hil hop => ?_⟩
  · have hx := hi i hil
    generalize f.code.getD i (0, 0) = x at *
    simp only [Pu.isInstr, Bool.and_eq_true, decide_eq_true_eq] at hx
    obtain ⟨⟨⟨x1, x2⟩, x3⟩, x4⟩ := hx
    refine ⟨⟨x1, x2⟩, fun hop => ?_, fun hop => ?_⟩
    · unfold Pu.argLo at x3
      unfold Pu.argHi at x4
      rw [if_neg (by omega)] at x3
      rw [if_neg (by omega), if_neg (by omega), if_pos hop] at x4
      unfold Fl.places
      rw [List.length_append]
      omega
    · unfold Pu.argLo at x3
      unfold Pu.argHi at x4
      rw [if_neg (by omega)] at x3
      rw [if_neg (by omega), if_neg (by omega), if_neg (by omega), if_neg (by omega), if_pos hop] at x4
      omega
  · have hx := hi i hil
    generalize f.code.getD i (0, 0) = x at *
    simp only [Pu.isInstr, Bool.and_eq_true, decide_eq_true_eq] at hx
    obtain ⟨⟨⟨x1, x2⟩, x3⟩, x4⟩ := hx
    unfold Pu.argLo at x3
    rw [if_neg (by omega)] at x3
    exact x3
def FirstBad (m : Pu.Md) (i : Nat) : Prop := i < m.funcs.length /\ ¬ Fl.Sound m (m.funcs.getD i ⟨[], [], [], []⟩) /\ ∀ j, j < i -> Fl.Sound m (m.funcs.getD j ⟨[], [], [], []⟩)
def AllGood (m : Pu.Md) : Prop := ∀ j, j < m.funcs.length -> Fl.Sound m (m.funcs.getD j ⟨[], [], [], []⟩)
def FlowSays (m : Pu.Md) (e p : Int) : Prop := (e = 3 /\ ∃ i : Nat, p = i /\ FirstBad m i) \/ (e = 0 /\ p = 0 /\ AllGood m)
theorem FlowSays.one {m : Pu.Md} {e p e' p' : Int} (h : FlowSays m e p) (h' : FlowSays m e' p') : e = e' /\ p = p' := by
  rcases h with ⟨rfl, i, rfl, h1, h2, h3⟩ | ⟨rfl, rfl, h⟩
  · rcases h' with ⟨rfl, j, rfl, k1, k2, k3⟩ | ⟨rfl, rfl, k⟩
    · refine ⟨rfl, ?_⟩
      by_cases hij : i < j
      · exact absurd (k3 i hij) h2
      · by_cases hji : j < i
        · exact absurd (h3 j hji) k2
        · omega
    · exact absurd (k i h1) h2
  · rcases h' with ⟨rfl, j, rfl, k1, k2, k3⟩ | ⟨rfl, rfl, k⟩
    · exact absurd (h j k1) k2
    · exact ⟨rfl, rfl⟩
def FlowOut (w w' : World) (m : Pu.Md) (r : Ending) : Prop := ∃ e p, r = .returned (.tuple #[.int .i64 e, .int .i64 p]) /\ FlowSays m e p /\ Below w.heap.size w w'
set_option maxRecDepth 100000 in
set_option maxHeartbeats 2000000 in
theorem fcheckm_any (m : Pu.Md) (mk mv : Value) (w : World) (hm : MdR w w.heap.size mk mv m) (h : Pu.isMd m = true) :
    Calls Tryz.prog 38 #[.agg #[mk, mv]] w fun e w' => FlowOut w w' m e := by
  have hsm := (is_small h).2
  obtain ⟨a1, c1, rfl⟩ := hm.k.shape
  obtain ⟨ao, cap, b, off, hvv, h1, h2⟩ := hm.v
  subst hvv
  have H1 := hid h1
  have H2 := hid h2
  have HM := hid hm
  have HI := hid h
  have bl0 := (Below.refl w.heap.size w).alloc (Nat.le_refl _) (.cells #[.slice a1 m.kinds.length c1, .slice ao m.funcs.length cap] 38)
  have mb0 : F2 (w.alloc (.cells #[.slice a1 m.kinds.length c1, .slice ao m.funcs.length cap] 38)) w.heap.size 38 (.slice a1 m.kinds.length c1) (.slice ao m.funcs.length cap) := heap_alloc_new w _
  clear h1 h2 hm h
  go_enter Tryz.func38, Tryz.ntmps38
  go_wp2
  go_loopw [4] (fun i wr => ∃ k : Nat, k <= m.funcs.length /\ i = .int .i64 k /\ (∀ j, j < k -> Fl.Sound m (m.funcs.getD j ⟨[], [], [], []⟩)) /\ F2 wr w.heap.size 38 (.slice a1 m.kinds.length c1) (.slice ao m.funcs.length cap) /\ Below w.heap.size w wr) (fun i _ => m.funcs.length - (intOf i).toNat)
  case atStart => exact ⟨0, Nat.zero_le _, rfl, fun j hj => by omega, mb0, bl0⟩
  case round =>
    obtain ⟨k, hk, rfl, hg, mb, bl⟩ := hrel
    clear mb0 bl0
    have HG := hid hg
    clear hg
    have d0 := mb.c0
    have d1 := mb.c1
    have l0 := mb.lt
    by_cases hlt : k < m.funcs.length
    · obtain ⟨rfl, hbB⟩ := H1.out (by omega)
      obtain ⟨y, g0, g1, g2, g3, hy⟩ := H2.out k hlt
      obtain ⟨x1, y1, x2, y2, x3, y3, x4, y4, rfl⟩ := hy.shape
      have k0 := (bl.cell (p := ⟨b, off + k * 4, none⟩) hbB).trans g0
      have k1 := (bl.cell (p := ⟨b, off + k * 4 + 1, none⟩) hbB).trans g1
      have k2 := (bl.cell (p := ⟨b, off + k * 4 + 2, none⟩) hbB).trans g2
      have k3 := (bl.cell (p := ⟨b, off + k * 4 + 3, none⟩) hbB).trans g3
      have lb : b < wr.heap.size := Nat.lt_of_lt_of_le hbB bl.size
      have hmem : m.funcs.getD k ⟨[], [], [], []⟩ ∈ m.funcs := by rw [List.getD_eq_getElem?_getD, List.getElem?_eq_getElem hlt]; exact List.getElem_mem hlt
      have fo := isMd_fn HI.out hmem
      have HGK : Hid (Fl.Sound m (m.funcs.getD k ⟨[], [], [], []⟩) -> ∀ j, j < k + 1 -> Fl.Sound m (m.funcs.getD j ⟨[], [], [], []⟩)) := fun hs j hj => by
        by_cases hjk : j < k
        · exact HG.out j hjk
        · rw [show j = k from by omega]; exact hs
      have HFB : Hid (¬ Fl.Sound m (m.funcs.getD k ⟨[], [], [], []⟩) -> FirstBad m k) := fun hs => ⟨hlt, hs, HG.out⟩
      generalize m.funcs.getD k ⟨[], [], [], []⟩ = f at *
      simp only at k0 k1 k2 k3
      clear g0 g1 g2 g3 hmem HG
      have hmr : MdR wr.drew wr.drew.heap.size _ _ m := ((HM.out.below bl).wide bl.size).below ((Below.refl _ _).drew)
      have hfr : FnR wr.drew wr.drew.heap.size _ f := ((hy.below bl).wide bl.size).below ((Below.refl _ _).drew)
      go_wp2_with fail
      go_region_held3 (fun w' => w'.cell? ⟨w.heap.size, 0, none⟩ = some (.slice a1 m.kinds.length c1) /\ w'.cell? ⟨w.heap.size, 1, none⟩ = some (.slice (some ⟨b, off, none⟩) m.funcs.length cap) /\ w'.cell? ⟨b, off + k * 4, none⟩ = some (.slice x1 f.params.length y1) /\ w'.cell? ⟨b, off + k * 4 + 1, none⟩ = some (.slice x2 f.results.length y2) /\ w'.cell? ⟨b, off + k * 4 + 2, none⟩ = some (.slice x3 f.locals.length y3) /\ w'.cell? ⟨b, off + k * 4 + 3, none⟩ = some (.slice x4 f.code.length y4))
        (first | exact ⟨d0, d1, k0, k1, k2, k3⟩ | exact ⟨(hb3.cell (p := ⟨w.heap.size, 0, none⟩) l0).trans d0, (hb3.cell (p := ⟨w.heap.size, 1, none⟩) l0).trans d1, (hb3.cell (p := ⟨b, off + k * 4, none⟩) lb).trans k0, (hb3.cell (p := ⟨b, off + k * 4 + 1, none⟩) lb).trans k1, (hb3.cell (p := ⟨b, off + k * 4 + 2, none⟩) lb).trans k2, (hb3.cell (p := ⟨b, off + k * 4 + 3, none⟩) lb).trans k3⟩)
        ((go_at_call 58; refine (fsound_any m f _ _ _ _ hmr hfr (isMd_kinds HI.out) fo).mono ?_; rintro e w3 ⟨r, rfl, hr, hb3⟩))
      have hbw : Below wr.heap.size wr w3 := ((Below.refl _ _).drew).trans hb3
      have bl3 : Below w.heap.size w w3 := bl.trans (hbw.mono bl.size)
      have mb3 : F2 w3 w.heap.size 38 _ _ := (hbw.block _ mb.lt).trans mb
      clear hb3 hbw hmr hfr fo hy k0 k1 k2 k3 d0 d1 mb bl
      cases r with
      | true =>
        have HG2 := hid (HGK.out (hr.1 rfl))
        clear hr HGK HFB
        go_wp2
        go_roundw
        case rel => exact ⟨k + 1, hlt, by go_num, HG2.out, mb3, bl3⟩
        case measure => simp [intOf]; omega
      | false =>
        have hns : ¬ Fl.Sound m f := fun hs => by have := hr.2 hs; simp at this
        have FIN : Hid (FlowOut w w3 m (.returned (.tuple #[.int .i64 3, .int .i64 k]))) := ⟨3, k, rfl, .inl ⟨rfl, k, rfl, HFB.out hns⟩, bl3⟩
        clear hr HGK HFB hns mb3
        go_wp2
        go_ret2
        exact FIN.out
    · have FIN : Hid (FlowOut w wr m (.returned (.tuple #[.int .i64 0, .int .i64 0]))) := ⟨0, 0, rfl, .inr ⟨rfl, rfl, fun j hj => HG.out j (by omega)⟩, bl⟩
      go_wp2
      go_ret2
      exact FIN.out
def ChkSays (b : ByteArray) (e p : Int) : Prop := (¬ (Pu.decode b).2.1 = 0 /\ e = (Pu.decode b).2.1 /\ p = (Pu.decode b).2.2) \/ ((Pu.decode b).2.1 = 0 /\ FlowSays (Pu.decode b).1 e p)
theorem ChkSays.one {b : ByteArray} {e p e' p' : Int} (h : ChkSays b e p) (h' : ChkSays b e' p') : e = e' /\ p = p' := by
  rcases h with ⟨h1, h2, h3⟩ | ⟨h1, h2⟩
  · rcases h' with ⟨_, k2, k3⟩ | ⟨k1, _⟩
    · exact ⟨by rw [h2, k2], by rw [h3, k3]⟩
    · exact absurd k1 h1
  · rcases h' with ⟨k1, _⟩ | ⟨_, k2⟩
    · exact absurd h1 k1
    · exact h2.one k2
def ChkOut (w w' : World) (b : ByteArray) (r : Ending) : Prop := ∃ e p, r = .returned (.tuple #[.int .i64 e, .int .i64 p]) /\ ChkSays b e p /\ Below w.heap.size w w'
end Go.Proofs.YtjamgmbdilkbcaaGreat

/- New, walked. -/
namespace Go.Proofs.YtjamgmbdilkbcaaGreat
open Go.RowKit

def noHeld : List Value := (List.replicate 48 [Value.bool false, .int .i64 0]).flatten
structure LedR (w : World) (q : Nat) (mk mv : Value) (held : List Value) : Prop where
  b : w.heap[q]? = some (.cells (mk :: mv :: held).toArray 108 (0, 0))
theorem zeroLedger : Tryz.zeroCells108.toList = .slice none 0 0 :: .slice none 0 0 :: noHeld := by kernel_rfl
theorem newCells (a b : Value) : ((Tryz.zeroCells108.setIfInBounds 0 a).setIfInBounds 1 b) = (a :: b :: noHeld).toArray := by
  apply Array.toList_inj.1
  rw [Array.toList_setIfInBounds, Array.toList_setIfInBounds, zeroLedger]
  rfl
end Go.Proofs.YtjamgmbdilkbcaaGreat

/- New: the ledger's module lies in fresh memory. -/
namespace Go.Proofs.YtjamgmbdilkbcaaGreat
open Go.RowKit

end Go.Proofs.YtjamgmbdilkbcaaGreat

/- Plain functions: the document's Encode, which writes first and reads what it wrote. -/
namespace Go.Proofs.YtjamgmbdilkbcaaGreat
namespace Pu

end Pu
end Go.Proofs.YtjamgmbdilkbcaaGreat

/- The document's Encode: small, put. -/
namespace Go.Proofs.YtjamgmbdilkbcaaGreat
open Go.RowKit

theorem byte_val (n : Int) : ((Pu.byte n).toNat : Int) = n % 256 := by
  unfold Pu.byte
  rw [UInt8.toNat_ofNat']
  omega
theorem owns_new (w : World) (v : Value) (e : TypeId) : (w.alloc (.cells #[v] e)).ownsRow w.heap.size e 1 (.slice (some ⟨w.heap.size, 0, none⟩) 1 1) 1 [v] :=
  ⟨rfl, .inr ⟨w.heap.size, 1, #[v], rfl, Nat.le_refl _, heap_alloc_new w _, Nat.le_refl _, by decide, rfl, rfl⟩⟩
end Go.Proofs.YtjamgmbdilkbcaaGreat

/- The document's Check: letter, letters. -/
namespace Go.Proofs.YtjamgmbdilkbcaaGreat
open Go.RowKit

def lt (k : Int) : UInt8 := Pu.byte (48 + k)
def str (l : List Int) : ByteArray := ⟨(l.map lt).toArray⟩
theorem str_size (l : List Int) : (str l).size = l.length := by simp [str, ByteArray.size]
theorem str_append (a b : List Int) : str a ++ str b = str (a ++ b) := by
  apply ByteArray.ext
  simp [str, ByteArray.data_append]
set_option maxHeartbeats 1000000 in
theorem rletter_any (k : Int) (w : World) (h : -1000 <= k /\ k <= 1000) :
    Calls Tryz.prog 95 #[.int .i64 k] w fun e w' => e = .returned (.string (str [k])) /\ Below w.heap.size w w' := by
  have o0 := owns_new w (.int .u8 ((48 + k) % 256)) 5
  have b0 := (Below.refl w.heap.size w).alloc (Nat.le_refl _) (.cells #[.int .u8 ((48 + k) % 256)] 5)
  have hcv := wr_string (l := [lt k]) (by simpa [bv, lt, byte_val] using o0)
  obtain ⟨s, hs⟩ : ∃ s : ByteArray, s = ⟨([lt k] : List UInt8).toArray⟩ := ⟨_, rfl⟩
  rw [<- hs] at hcv
  have HS := hid hs
  clear hs o0
  go_enter Tryz.func95, Tryz.ntmps95
  go_wp2
  go_ret
  refine ⟨?_, b0⟩
  rw [show str [k] = s from HS.out.symm]
  rfl
set_option maxRecDepth 100000 in
set_option maxHeartbeats 1000000 in
theorem rletters_any (l : List Int) (v : Value) (w : World) (h : IntsR w w.heap.size v l) (hl : l.length <= 1000) (hk : ∀ k ∈ l, -1000 <= k /\ k <= 1000) :
    Calls Tryz.prog 73 #[v] w fun e w' => e = .returned (.string (str l)) /\ Below w.heap.size w w' := by
  obtain ⟨ao, cap, b, off, rfl, h1, h2⟩ := h
  have H1 := hid h1
  have H2 := hid h2
  have HK := hid hk
  clear h1 h2 hk
  go_enter Tryz.func73, Tryz.ntmps73
  go_wp2
  go_loopw [3, 4] (fun s i wr => ∃ k : Nat, k <= l.length /\ i = .int .i64 k /\ s = .string (str (l.take k)) /\ Below w.heap.size w wr) (fun _ i _ => l.length - (intOf i).toNat)
  case atStart => exact ⟨0, Nat.zero_le _, rfl, rfl, Below.refl _ _⟩
  case round =>
    obtain ⟨k, hk, rfl, rfl, hb⟩ := hrel
    by_cases hlt : k < l.length
    · obtain ⟨rfl, hbB⟩ := H1.out (by omega)
      have hc := (hb.cell (p := ⟨b, off + k, none⟩) hbB).trans (H2.out k hlt)
      have HT : Hid (str (l.take k) ++ str [l.getD k 0] = str (l.take (k + 1))) := by
        show _ = _
        rw [str_append, List.take_succ_eq_append_getElem hlt, List.getD_eq_getElem?_getD, List.getElem?_eq_getElem hlt]
        rfl
      have hkk := HK.out (l.getD k 0) (by rw [List.getD_eq_getElem?_getD, List.getElem?_eq_getElem hlt]; exact List.getElem_mem hlt)
      have hsz := str_size (l.take k)
      rw [List.length_take] at hsz
      generalize l.getD k 0 = x at *
      generalize str (l.take k) = S at *
      have hx1 : (str [x]).size = 1 := str_size [x]
      have t1 : (9223372036854775807 < S.size + 1) = False := by simp; omega
      go_wp2_with fail
      refine (rletter_any x wr hkk).mono ?_
      rintro e w3 ⟨rfl, hb3⟩
      have hb4 := hb.trans (hb3.mono hb.size)
      clear hb hb3 hc
      generalize str [x] = X at *
      go_wp2
      go_roundw
      case rel => exact ⟨k + 1, hlt, by go_num, by rw [<- HT.out], hb4⟩
      case measure => simp [intOf]; omega
    · have hkl : k = l.length := by omega
      subst hkl
      rw [List.take_of_length_le (Nat.le_refl _)]
      go_wp2
      go_ret
      exact ⟨rfl, hb⟩
set_option maxRecDepth 100000 in
set_option maxHeartbeats 1000000 in
theorem rmay_any (m : Pu.Md) (mk mv : Value) (k what : Int) (w : World) (hm : MdR w w.heap.size mk mv m) (hk : 0 <= k /\ k <= m.kinds.length) :
    Calls Tryz.prog 99 #[.agg #[mk, mv], .int .i64 k, .int .i64 what] w fun e w' => e = .returned (.bool (Fl.may m k what)) /\ Below w.heap.size w w' := by
  obtain ⟨a2, c2, rfl⟩ := hm.v.shape
  obtain ⟨ao, cap, b, off, hkv, h1, h2⟩ := hm.k
  subst hkv
  have hnk := hm.nk
  unfold maxLen at hnk
  have bl0 := (Below.refl w.heap.size w).alloc (Nat.le_refl _) (.cells #[.slice ao m.kinds.length cap, .slice a2 m.funcs.length c2] 38)
  by_cases h0 : k = 0
  · subst h0
    have hm0 : Fl.may m 0 what = true := by simp [Fl.may]
    rw [hm0]
    go_enter Tryz.func99, Tryz.ntmps99
    go_wp2
    go_ret
    exact ⟨rfl, bl0⟩
  · obtain ⟨n, rfl⟩ : ∃ n : Nat, k = n + 1 := ⟨(k - 1).toNat, by omega⟩
    obtain ⟨rfl, hbl⟩ := h1 (by omega)
    have c1 := h2 n (by omega)
    have HM : Hid (Fl.may m ((n : Int) + 1) what = decide (m.kinds.getD n 0 = 3 \/ m.kinds.getD n 0 = what)) := by
      show _ = _
      simp only [Fl.may]
      rw [if_pos (by omega), show ((n : Int) + 1 - 1).toNat = n from by omega]
    generalize m.kinds.getD n 0 = z at *
    rw [HM.out]
    clear HM h1 h2
    go_enter Tryz.func99, Tryz.ntmps99
    by_cases hz : z = 3
    · subst hz
      go_wp2
      go_ret
      exact ⟨by simp, bl0⟩
    · by_cases hzw : z = what
      · subst hzw
        go_wp2
        go_ret
        exact ⟨by simp, bl0⟩
      · go_wp2
        go_ret
        exact ⟨by simp [hz, hzw], bl0⟩
theorem lt_inj {a b : Int} (ha : 0 <= a /\ a <= 100) (hb : 0 <= b /\ b <= 100) (h : lt a = lt b) : a = b := by
  have h2 := congrArg (fun x => (x.toNat : Int)) h
  simp only [lt, byte_val] at h2
  omega
def Low (l : List Int) : Prop := ∀ k ∈ l, 0 <= k /\ k <= 100
theorem map_lt_inj : ∀ {a b : List Int}, Low a -> Low b -> a.map lt = b.map lt -> a = b
  | [], [], _, _, _ => rfl
  | [], _ :: _, _, _, h => by simp at h
  | _ :: _, [], _, _, h => by simp at h
  | x :: a, y :: b, ha, hb, h => by
    simp only [List.map_cons, List.cons.injEq] at h
    rw [lt_inj (ha x (by simp)) (hb y (by simp)) h.1, map_lt_inj (fun k hk => ha k (by simp [hk])) (fun k hk => hb k (by simp [hk])) h.2]
theorem str_extract (s : List Int) (i j : Nat) : (str s).extract i j = str ((s.take j).drop i) := by
  apply ByteArray.ext
  simp [str, ByteArray.data_extract, List.map_drop, List.map_take]
  rw [List.drop_take]
theorem str_list (s : List Int) : (str s).toList = s.map lt := by
  simp [str, ByteArray.toList_eq]
theorem str_eq {a b : List Int} (ha : Low a) (hb : Low b) : ((str a).toList == (str b).toList) = decide (a = b) := by
  rw [str_list, str_list]
  by_cases h : a = b
  · subst h; simp
  · simp only [h, decide_false]
    rw [beq_eq_false_iff_ne]
    exact fun e => h (map_lt_inj ha hb e)
set_option maxRecDepth 100000 in
set_option maxHeartbeats 1000000 in
theorem rends_any (s l : List Int) (w : World) (hs : s.length <= 1000) (hl : l.length <= 1000) (ls : Low s) (ll : Low l) :
    Calls Tryz.prog 101 #[.string (str s), .string (str l)] w fun e w' => e = .returned (.bool (decide (l.length <= s.length /\ s.drop (s.length - l.length) = l))) /\ w' = w := by
  have h1 := str_size s
  have h2 := str_size l
  go_enter Tryz.func101, Tryz.ntmps101
  by_cases hle : l.length <= s.length
  · go_wp2
    go_ret
    refine ⟨?_, rfl⟩
    have hd : Low (s.drop (s.length - l.length)) := fun k hk => ls k (List.mem_of_mem_drop hk)
    have e1 : ((str s).extract (s.length - l.length) s.length).toList = (str (s.drop (s.length - l.length))).toList := by rw [str_extract, List.take_of_length_le (Nat.le_refl _)]
    simp [e1, str_eq hd ll, hle]
  · go_wp2
    go_ret
    refine ⟨?_, rfl⟩
    simp [hle]
end Go.Proofs.YtjamgmbdilkbcaaGreat

/- The document's Check: free, turn, places. -/
namespace Go.Proofs.YtjamgmbdilkbcaaGreat
open Go.RowKit

def bs (l : List UInt8) : ByteArray := ⟨l.toArray⟩
theorem bs_size (l : List UInt8) : (bs l).size = l.length := by simp [bs, ByteArray.size]
theorem bs_append (a b : List UInt8) : bs a ++ bs b = bs (a ++ b) := by
  apply ByteArray.ext
  simp [bs, ByteArray.data_append]
theorem bs_extract (s : List UInt8) (i j : Nat) : (bs s).extract i j = bs ((s.take j).drop i) := by
  apply ByteArray.ext
  simp [bs, ByteArray.data_extract]
  rw [List.drop_take]
theorem str_bs (l : List Int) : str l = bs (l.map lt) := rfl
def spot (k : Int) (b : Bool) : UInt8 := if b = true then lt k else 45
def spots (pl : List Int) (full : List Bool) : List UInt8 := List.zipWith spot pl full
theorem lt_val (k : Int) (h : 0 <= k /\ k <= 100) : ((lt k).toNat : Int) = 48 + k := by
  unfold lt
  rw [byte_val]
  omega
set_option maxRecDepth 100000 in
set_option maxHeartbeats 1000000 in
theorem rfree_any (m : Pu.Md) (mk mv : Value) (k : Int) (b : Bool) (w : World) (hm : MdR w w.heap.size mk mv m) (hk : 0 <= k /\ k <= m.kinds.length) (hn : m.kinds.length <= 100) :
    Calls Tryz.prog 98 #[.agg #[mk, mv], .int .u8 ((spot k b).toNat : Int)] w fun e w' => e = .returned (.bool (!b || Fl.may m k 2)) /\ Below w.heap.size w w' := by
  obtain ⟨a1, c1, rfl⟩ := hm.k.shape
  obtain ⟨a2, c2, rfl⟩ := hm.v.shape
  have bl0 := (Below.refl w.heap.size w).alloc (Nat.le_refl _) (.cells #[.slice a1 m.kinds.length c1, .slice a2 m.funcs.length c2] 38)
  have hm0 := (hm.below bl0).wide bl0.size
  cases b with
  | false =>
    have e1 : ((spot k false).toNat : Int) = 45 := rfl
    rw [e1]
    go_enter Tryz.func98, Tryz.ntmps98
    go_wp2
    go_ret
    exact ⟨rfl, bl0⟩
  | true =>
    have e1 : ((spot k true).toNat : Int) = 48 + k := lt_val k (by omega)
    rw [e1]
    have hne : ¬ (48 + k = 45) := by omega
    have hne2 : (48 + k == 45) = false := by simpa using hne
    go_enter Tryz.func98, Tryz.ntmps98
    go_wp2_with fail
    rw [show 48 + k - 48 = k from by omega]
    refine (rmay_any m _ _ k 2 _ hm0 hk).mono ?_
    rintro e w3 ⟨rfl, hb3⟩
    have hb4 := bl0.trans (hb3.mono bl0.size)
    clear hm hm0 hb3 bl0
    go_wp2
    go_ret
    exact ⟨by simp, hb4⟩
set_option maxRecDepth 100000 in
set_option maxHeartbeats 1000000 in
theorem rturn_any (l t : List UInt8) (i : Nat) (w : World) (hi : i < l.length) (hl : l.length <= 1000) (ht : t.length <= 1000) :
    Calls Tryz.prog 100 #[.string (bs l), .int .i64 i, .string (bs t)] w fun e w' => e = .returned (.string (bs (l.take i ++ t ++ l.drop (i + 1)))) /\ Alike w w' := by
  have h1 := bs_size l
  have h2 := bs_size t
  have e1 : (bs l).extract 0 i = bs (l.take i) := by rw [bs_extract]; rfl
  have e2 : (bs l).extract (i + 1) l.length = bs (l.drop (i + 1)) := by rw [bs_extract, List.take_of_length_le (Nat.le_refl _)]
  have e3 : (bs (l.take i)).size = i := by rw [bs_size, List.length_take]; omega
  have e4 : (bs (l.drop (i + 1))).size = l.length - (i + 1) := by rw [bs_size, List.length_drop]
  have HR : Hid (bs (l.take i) ++ bs t ++ bs (l.drop (i + 1)) = bs (l.take i ++ t ++ l.drop (i + 1))) := by show _ = _; rw [bs_append, bs_append]
  rw [<- HR.out]
  generalize bs (l.take i) = X1 at *
  generalize bs (l.drop (i + 1)) = X2 at *
  generalize bs t = X3 at *
  have t1 : (9223372036854775807 < i + t.length) = False := by simp; omega
  have t2 : (9223372036854775807 < i + t.length + (l.length - (i + 1))) = False := by simp; omega
  go_enter Tryz.func100, Tryz.ntmps100
  go_wp2
  go_quiet (fail)
  go_wp2
  go_ret
  exact ⟨rfl, rfl, rfl, rfl, rfl⟩
theorem Low.far {l : List Int} (h : Low l) : ∀ k ∈ l, -1000 <= k /\ k <= 1000 := fun k hk => by have := h k hk; omega
abbrev PS (W0 : World) (q : Nat) (a b : Value) (w : World) : Prop := Below W0.heap.size W0 w /\ w.cell? ⟨q, 0, none⟩ = some a /\ w.cell? ⟨q, 2, none⟩ = some b
theorem PS.step {W0 w1 w2 : World} {q : Nat} {a b : Value} (hq : q < W0.heap.size) (h : PS W0 q a b w1) (hb : Below w1.heap.size w1 w2) : PS W0 q a b w2 := by
  have hql : q < w1.heap.size := Nat.lt_of_lt_of_le hq h.1.size
  exact ⟨h.1.trans (hb.mono h.1.size), (hb.cell (p := ⟨q, 0, none⟩) hql).trans h.2.1, (hb.cell (p := ⟨q, 2, none⟩) hql).trans h.2.2⟩
set_option maxRecDepth 100000 in
set_option maxHeartbeats 1000000 in
theorem rplaces_any (f : Pu.Fn) (x : FV) (w : World) (hf : FnR w w.heap.size x f) (hn : (Fl.places f).length <= 8) (hl : Low (Fl.places f)) :
    Calls Tryz.prog 97 #[.agg #[x.p, x.r, x.l, x.c]] w fun e w' => e = .returned (.string (str (Fl.places f))) /\ Below w.heap.size w w' := by
  obtain ⟨x1, y1, x2, y2, x3, y3, x4, y4, rfl⟩ := hf.shape
  have b0 : F4 (w.alloc (.cells #[.slice x1 f.params.length y1, .slice x2 f.results.length y2, .slice x3 f.locals.length y3, .slice x4 f.code.length y4] 62)) w.heap.size 62 (.slice x1 f.params.length y1) (.slice x2 f.results.length y2) (.slice x3 f.locals.length y3) (.slice x4 f.code.length y4) := heap_alloc_new w _
  have bl0 := (Below.refl w.heap.size w).alloc (Nat.le_refl _) (.cells #[.slice x1 f.params.length y1, .slice x2 f.results.length y2, .slice x3 f.locals.length y3, .slice x4 f.code.length y4] 62)
  have hf0 := (hf.below bl0).wide bl0.size
  have hpl : f.params.length + f.locals.length <= 8 := by unfold Fl.places at hn; rw [List.length_append] at hn; exact hn
  have hl1 : Low f.params := fun k hk => hl k (List.mem_append_left _ hk)
  have hl2 : Low f.locals := fun k hk => hl k (List.mem_append_right _ hk)
  have HR : Hid (str f.params ++ str f.locals = str (Fl.places f)) := by show _ = _; rw [str_append]; rfl
  have s1 := str_size f.params
  have s2 := str_size f.locals
  have t1 : (9223372036854775807 < f.params.length + f.locals.length) = False := by simp; omega
  rw [<- HR.out]
  simp only
  obtain ⟨W0, hW0⟩ : ∃ W0, W0 = w.alloc (.cells #[.slice x1 f.params.length y1, .slice x2 f.results.length y2, .slice x3 f.locals.length y3, .slice x4 f.code.length y4] 62) := ⟨_, rfl⟩
  rw [<- hW0] at b0 bl0 hf0
  have HW := hid hW0
  have C1 : ∀ w', PS W0 w.heap.size (.slice x1 f.params.length y1) (.slice x3 f.locals.length y3) w' -> Calls Tryz.prog 73 #[.slice x1 f.params.length y1] w' fun e w'' => e = .returned (.string (str f.params)) /\ Below w'.heap.size w' w'' := fun w' hp => rletters_any f.params _ w' ((hf0.p.below hp.1).wide hp.1.size) (by omega) hl1.far
  have C2 : ∀ w', PS W0 w.heap.size (.slice x1 f.params.length y1) (.slice x3 f.locals.length y3) w' -> Calls Tryz.prog 73 #[.slice x3 f.locals.length y3] w' fun e w'' => e = .returned (.string (str f.locals)) /\ Below w'.heap.size w' w'' := fun w' hp => rletters_any f.locals _ w' ((hf0.l.below hp.1).wide hp.1.size) (by omega) hl2.far
  have D1 := hid C1
  have D2 := hid C2
  have hq0 : w.heap.size < W0.heap.size := b0.lt
  have S0 : PS W0 w.heap.size (.slice x1 f.params.length y1) (.slice x3 f.locals.length y3) W0.drew := ⟨(Below.refl _ _).drew, b0.c0, b0.c2⟩
  clear hl hn hW0 C1 C2 hf hf0
  generalize str f.params = SP at *
  generalize str f.locals = SL at *
  go_enter Tryz.func97, Tryz.ntmps97
  go_wp2_with fail
  rw [<- HW.out]
  go_region_held3 (fun w' => Below W0.heap.size W0 w' /\ w'.cell? ⟨w.heap.size, 0, none⟩ = some (.slice x1 f.params.length y1) /\ w'.cell? ⟨w.heap.size, 2, none⟩ = some (.slice x3 f.locals.length y3))
    (first | exact S0 | exact PS.step hq0 (by assumption) hb3)
    (first | (go_at_call 73; with_reducible show Calls _ _ #[.slice x1 f.params.length y1] _ _; refine (D1.out _ (by assumption)).mono ?_; rintro e w3 ⟨rfl, hb3⟩) | (go_at_call 73; with_reducible show Calls _ _ #[.slice x3 f.locals.length y3] _ _; refine (D2.out _ (by assumption)).mono ?_; rintro e w3 ⟨rfl, hb3⟩))
  have hbF : Below W0.heap.size W0 w3 := (show PS W0 w.heap.size (.slice x1 f.params.length y1) (.slice x3 f.locals.length y3) w3 by assumption).1
  have hbG := bl0.trans (hbF.mono bl0.size)
  clear hbF D1 D2 S0 b0 bl0
  go_wp2
  go_ret
  exact ⟨rfl, hbG⟩
end Go.Proofs.YtjamgmbdilkbcaaGreat
