import Derived.Test.YtjamgmbdilkbcaaGreatLotLedgers39
import Derived.Test.YtjamgmbdilkbcaaGreatLotLedgers13
import Derived.Test.YtjamgmbdilkbcaaGreatLotLedgers07
/- The document's find, without. -/
namespace Go.Proofs.YtjamgmbdilkbcaaGreat
open Go.RowKit

namespace Dw
open Dr (Gg Rm)

theorem Tryz.info145 : (Tryz.prog.info? 145).map (fun i => (i.zero, i.size, i.bytes)) = some (some (.agg #[.int .i64 0, .int .i64 0, .int .i64 0]), 3, 24) := by kernel_rfl
def noHd : Dr.Hd := ⟨0, 0, 0⟩
theorem hc_snoc (l : List Dr.Hd) (a : Dr.Hd) : hc (l ++ [a]) = hc l ++ [.int .i64 a.who, .int .i64 a.kind, .int .i64 a.n] := by simp [hc]
theorem hc_get : ∀ (l : List Dr.Hd) (i : Nat), i < l.length -> (hc l)[i * 3]? = some (.int .i64 (l.getD i noHd).who) /\ (hc l)[i * 3 + 1]? = some (.int .i64 (l.getD i noHd).kind) /\ (hc l)[i * 3 + 2]? = some (.int .i64 (l.getD i noHd).n)
  | [], i, h => absurd h (by simp)
  | a :: l, 0, _ => ⟨by simp [hc], by simp [hc], by simp [hc]⟩
  | a :: l, i + 1, h => by
    have ih := hc_get l i (by simpa using h)
    have e : hc (a :: l) = [.int .i64 a.who, .int .i64 a.kind, .int .i64 a.n] ++ hc l := by simp [hc]
    rw [e]
    refine ⟨?_, ?_, ?_⟩
    · rw [List.getElem?_append_right (by simp; omega)]; simp only [List.length_cons, List.length_nil]; rw [show (i + 1) * 3 - (0 + 1 + 1 + 1) = i * 3 from by omega]; simpa using ih.1
    · rw [List.getElem?_append_right (by simp; omega)]; simp only [List.length_cons, List.length_nil]; rw [show (i + 1) * 3 + 1 - (0 + 1 + 1 + 1) = i * 3 + 1 from by omega]; simpa using ih.2.1
    · rw [List.getElem?_append_right (by simp; omega)]; simp only [List.length_cons, List.length_nil]; rw [show (i + 1) * 3 + 2 - (0 + 1 + 1 + 1) = i * 3 + 2 from by omega]; simpa using ih.2.2
def HsR (w : World) (B : Nat) (v : Value) (l : List Dr.Hd) : Prop :=
  ∃ ao cap b, v = .slice ao l.length cap /\ (0 < l.length -> ao = some ⟨b, 0, none⟩ /\ b < B) /\ ∀ j, j < l.length ->
    w.cell? ⟨b, j * 3, none⟩ = some (.int .i64 (l.getD j noHd).who) /\ w.cell? ⟨b, j * 3 + 1, none⟩ = some (.int .i64 (l.getD j noHd).kind) /\ w.cell? ⟨b, j * 3 + 2, none⟩ = some (.int .i64 (l.getD j noHd).n)
theorem owns_hs {w : World} {B : Nat} {v : Value} {l : List Dr.Hd} (h : w.ownsRow B 145 3 v l.length (hc l)) : HsR w w.heap.size v l := by
  have h' := h
  rcases h.2 with ⟨rfl, hn⟩ | ⟨g', cap', cur, rfl, _, hg, _⟩
  · have : l = [] := List.eq_nil_of_length_eq_zero hn
    subst this
    exact ⟨none, 0, 0, rfl, fun h => absurd h (by simp), fun j hj => absurd hj (by simp)⟩
  · refine ⟨some ⟨g', 0, none⟩, cap', g', rfl, fun _ => ⟨rfl, (Array.getElem?_eq_some_iff.1 hg).1⟩, fun j hj => ?_⟩
    obtain ⟨g0, g1, g2⟩ := hc_get l j hj
    have k0 := h'.cells (g := g') rfl _ _ g0
    have k1 := h'.cells (g := g') rfl _ _ g1
    have k2 := h'.cells (g := g') rfl _ _ g2
    rw [addr_add] at k0 k1 k2
    exact ⟨by simpa using k0, by simpa using k1, by simpa using k2⟩
theorem findN_none {who kind : Int} : ∀ {l : List Dr.Hd}, (∀ j, j < l.length -> ¬ ((l.getD j noHd).who = who /\ (l.getD j noHd).kind = kind)) -> Dr.findN who kind l = none
  | [], _ => rfl
  | a :: l, h => by
    unfold Dr.findN
    rw [if_neg (by simpa using h 0 (by simp)), findN_none (l := l) fun j hj => by simpa using h (j + 1) (by simpa using hj)]
    rfl
theorem findN_at {who kind : Int} : ∀ {l : List Dr.Hd} {k : Nat}, k < l.length -> (∀ j, j < k -> ¬ ((l.getD j noHd).who = who /\ (l.getD j noHd).kind = kind)) -> ((l.getD k noHd).who = who /\ (l.getD k noHd).kind = kind) -> Dr.findN who kind l = some k
  | [], k, hk, _, _ => absurd hk (by simp)
  | a :: l, 0, _, _, h => by unfold Dr.findN; rw [if_pos (by simpa using h)]
  | a :: l, k + 1, hk, h1, h2 => by
    unfold Dr.findN
    rw [if_neg (by simpa using h1 0 (by omega)), findN_at (l := l) (k := k) (by simpa using hk) (fun j hj => by simpa using h1 (j + 1) (by omega)) (by simpa using h2)]
    rfl
set_option maxRecDepth 100000 in
set_option maxHeartbeats 1000000 in
theorem find_any (l : List Dr.Hd) (v : Value) (who kind : Int) (w : World) (h : HsR w w.heap.size v l) (hl : l.length <= 1000000) :
    Calls Tryz.prog 64 #[v, .int .i64 who, .int .i64 kind] w fun e w' => e = .returned (.int .i64 (Dr.find l who kind)) /\ Below w.heap.size w w' := by
  obtain ⟨ao, cap, b, rfl, h1, h2⟩ := h
  have H1 := hid h1
  have H2 := hid h2
  have b0 := Below.refl w.heap.size w
  clear h1 h2
  have HF : Hid (∀ k, Dr.findN who kind l = some k -> Dr.find l who kind = k) := hid fun k hk => by unfold Dr.find; rw [hk]
  have HN : Hid (Dr.findN who kind l = none -> Dr.find l who kind = -1) := hid fun hk => by unfold Dr.find; rw [hk]
  generalize Dr.find l who kind = R at *
  go_enter Tryz.func64, Tryz.ntmps64
  go_wp2_with fail
  go_loopw [7] (fun i wr => ∃ k : Nat, k <= l.length /\ i = .int .i64 k /\ (∀ j, j < k -> ¬ ((l.getD j noHd).who = who /\ (l.getD j noHd).kind = kind)) /\ Below w.heap.size w wr) (fun i _ => l.length - (intOf i).toNat)
  case atStart => exact ⟨0, Nat.zero_le _, rfl, fun j hj => absurd hj (by omega), b0⟩
  case round =>
    clear b0
    obtain ⟨k, hk, rfl, hall, bk⟩ := hrel
    have HALL := hid hall
    clear hall
    by_cases hlt : k < l.length
    · obtain ⟨rfl, hbb⟩ := H1.out (by omega)
      obtain ⟨c0, c1, _⟩ := H2.out k hlt
      have d0 := (bk.cell (p := ⟨b, k * 3, none⟩) hbb).trans c0
      have d1 := (bk.cell (p := ⟨b, k * 3 + 1, none⟩) hbb).trans c1
      clear c0 c1
      by_cases hm : (l.getD k noHd).who = who /\ (l.getD k noHd).kind = kind
      · have FIN : Hid (R = k) := hid (HF.out k (findN_at hlt HALL.out hm))
        rw [hm.1] at d0
        rw [hm.2] at d1
        clear HF HN HALL hm
        go_wp2
        go_ret
        rw [FIN.out]
        exact ⟨rfl, bk⟩
      · have HALL2 : Hid (∀ j, j < k + 1 -> ¬ ((l.getD j noHd).who = who /\ (l.getD j noHd).kind = kind)) := hid fun j hj => by
          by_cases e : j = k
          · subst e; exact hm
          · exact HALL.out j (by omega)
        clear HALL HF HN
        generalize (l.getD k noHd).who = W0 at *
        generalize (l.getD k noHd).kind = K0 at *
        by_cases hw : W0 = who
        · have hk2 : K0 ≠ kind := fun e => hm ⟨hw, e⟩
          subst hw
          have n1 : (K0 == kind) = false := by simpa using hk2
          clear hm
          go_wp2
          go_roundw
          case rel => exact ⟨k + 1, hlt, by go_num, HALL2.out, bk⟩
          case measure => simp [intOf]; omega
        · have n1 : (W0 == who) = false := by simpa using hw
          clear hm
          go_wp2
          go_roundw
          case rel => exact ⟨k + 1, hlt, by go_num, HALL2.out, bk⟩
          case measure => simp [intOf]; omega
    · have hkl : k = l.length := by omega
      subst hkl
      have FIN : Hid (R = -1) := hid (HN.out (findN_none HALL.out))
      clear HALL HF HN
      go_wp2
      go_ret
      rw [FIN.out]
      exact ⟨rfl, bk⟩
end Dw
end Go.Proofs.YtjamgmbdilkbcaaGreat

/- The document's without. -/
namespace Go.Proofs.YtjamgmbdilkbcaaGreat
open Go.RowKit

namespace Dw
open Dr (Gg Rm)

theorem cell_three (w : World) (a b c : Value) (t : TypeId) : ∀ j u, [a, b, c][j]? = some u -> (w.alloc (.cells #[a, b, c] t)).cell? ((⟨w.heap.size, 0, none⟩ : Addr).add j) = some u := by
  intro j u hu
  have hb := heap_alloc_new w (.cells #[a, b, c] t)
  rw [addr_add]
  unfold World.cell?
  simp only [hb]
  match j, hu with
  | 0, hu => simpa using hu
  | 1, hu => simpa using hu
  | 2, hu => simpa using hu
  | j + 3, hu => simp at hu
theorem without_step (l : List Dr.Hd) (i : Int) {k : Nat} (hk : k < l.length) : Dr.without (l.take (k + 1)) i = if (k : Int) = i then Dr.without (l.take k) i else Dr.without (l.take k) i ++ [l.getD k noHd] := by
  have e : l.take (k + 1) = l.take k ++ [l.getD k noHd] := by
    rw [List.take_add_one, List.getElem?_eq_getElem hk, List.getD_eq_getElem?_getD, List.getElem?_eq_getElem hk]; rfl
  have hl : (l.take k).length = k := by simp; omega
  rw [e]
  unfold Dr.without
  by_cases hi : i < 0
  · rw [if_pos hi, if_pos hi, if_neg (by omega)]
  · rw [if_neg hi, if_neg hi]
    by_cases hki : (k : Int) = i
    · rw [if_pos hki, List.eraseIdx_append_of_length_le (by omega), show i.toNat - (l.take k).length = 0 from by omega, List.eraseIdx_of_length_le (l := l.take k) (by omega)]
      simp
    · rw [if_neg hki]
      by_cases hlt : i.toNat < k
      · rw [List.eraseIdx_append_of_lt_length (by omega)]
      · rw [List.eraseIdx_append_of_length_le (by omega), List.eraseIdx_of_length_le (l := l.take k) (by omega)]
        obtain ⟨d, hd⟩ : ∃ d, i.toNat - (l.take k).length = d + 1 := ⟨i.toNat - k - 1, by omega⟩
        rw [hd]
        simp
theorem without_len (l : List Dr.Hd) (i : Int) : (Dr.without l i).length <= l.length := by
  unfold Dr.without
  split
  · exact Nat.le_refl _
  · rw [List.length_eraseIdx]; split <;> omega
set_option maxRecDepth 100000 in
set_option maxHeartbeats 1000000 in
theorem without_any (l : List Dr.Hd) (v : Value) (i : Int) (w : World) (h : HsR w w.heap.size v l) (hl : l.length <= 1000000) :
    Calls Tryz.prog 61 #[v, .int .i64 i] w fun e w' => ∃ v', e = .returned v' /\ w'.ownsRow w.heap.size 145 3 v' (Dr.without l i).length (hc (Dr.without l i)) /\ Below w.heap.size w w' := by
  obtain ⟨j0, hj0, hy0, hy1, hy2⟩ := info_parts Tryz.info145
  obtain ⟨ao, cap, b, rfl, h1, h2⟩ := h
  have H1 := hid h1
  have H2 := hid h2
  have b0 := Below.refl w.heap.size w
  clear h1 h2
  go_enter Tryz.func61, Tryz.ntmps61
  go_wp2_with fail
  go_loopw [5, 6] (fun o x wr => ∃ (k : Nat), k <= l.length /\ x = .int .i64 k /\ wr.ownsRow w.heap.size 145 3 o (Dr.without (l.take k) i).length (hc (Dr.without (l.take k) i)) /\ Below w.heap.size w wr) (fun _ x _ => l.length - (intOf x).toNat)
  case atStart => exact ⟨0, Nat.zero_le _, rfl, by simp [Dr.without, hc]; exact World.ownsRow_nil _ _ _ _, b0⟩
  case round =>
    clear b0
    obtain ⟨k, hk, rfl, ho, bk⟩ := hrel
    by_cases hlt : k < l.length
    · obtain ⟨rfl, hbb⟩ := H1.out (by omega)
      obtain ⟨c0, c1, c2⟩ := H2.out k hlt
      have d0 := (bk.cell (p := ⟨b, k * 3, none⟩) hbb).trans c0
      have d1 := (bk.cell (p := ⟨b, k * 3 + 1, none⟩) hbb).trans c1
      have d2 := (bk.cell (p := ⟨b, k * 3 + 2, none⟩) hbb).trans c2
      have hst := without_step l i hlt
      have hwl := without_len (l.take k) i
      have htl : (l.take k).length <= 1000000 := by simp; omega
      obtain ⟨ao2, cap2, rfl⟩ := owns_shape ho
      clear c0 c1 c2
      generalize l.getD k noHd = X at *
      obtain ⟨xw, xk, xn⟩ := X
      simp only at *
      by_cases hki : (k : Int) = i
      · rw [if_pos hki] at hst
        have HO : Hid (wr.ownsRow w.heap.size 145 3 _ (Dr.without (l.take (k + 1)) i).length (hc (Dr.without (l.take (k + 1)) i))) := hid (by rw [hst]; exact ho)
        generalize (Dr.without (l.take k) i).length = NN at *
        clear ho hst
        subst hki
        go_wp2
        go_roundw
        case rel => exact ⟨k + 1, hlt, by go_num, HO.out, bk⟩
        case measure => simp [intOf]; omega
      · rw [if_neg hki] at hst
        have n1 : ((k : Int) == i) = false := by simpa using hki
        have n2 : ((k : Int) != i) = true := by simpa using hki
        have HST : Hid (∀ (W : World) (o : Value), W.ownsRow w.heap.size 145 3 o ((Dr.without (l.take k) i).length + 1) (hc (Dr.without (l.take k) i) ++ [.int .i64 xw, .int .i64 xk, .int .i64 xn]) -> W.ownsRow w.heap.size 145 3 o (Dr.without (l.take (k + 1)) i).length (hc (Dr.without (l.take (k + 1)) i))) := hid fun W o hh => by
          rw [hst, hc_snoc, List.length_append]; exact hh
        have oA := ho.alloc (.cells #[.int .i64 xw, .int .i64 xk, .int .i64 xn] 145)
        have bA := bk.alloc bk.size (.cells #[.int .i64 xw, .int .i64 xk, .int .i64 xn] 145)
        have hsz := bk.size
        clear hst
        generalize hc (Dr.without (l.take k) i) = XS at *
        generalize (Dr.without (l.take k) i).length = NN at *
        have hlo : ∀ g, (Value.slice ao2 NN cap2).ownBlock = some g -> w.heap.size <= g := fun g hg => (ho.lt g hg).1
        clear ho bk
        go_wp2_with (at_builtin; refine wpList_append_keep rfl _ _ 109 rfl w.heap.size 145 j0 (.agg #[.int .i64 0, .int .i64 0, .int .i64 0]) 3 24 Tryz.underlying109 hj0 hy0 hy1 hy2 rfl (by decide) _ _ _ rfl oA ⟨wr.heap.size, 0, none⟩ 1 1 [.int .i64 xw, .int .i64 xk, .int .i64 xn] rfl rfl (cell_three _ _ _ _ _) ?t2 ?t3 ?t4 ?t5 (by decide) ?_)
        case t2 => intro u hu; simp at hu; rcases hu with rfl | rfl | rfl <;> rfl
        case t3 => unfold maxLen; omega
        case t4 => omega
        case t5 => simp only [World.size_alloc]; omega
        intro v2 w5 hv5 hg5 _ _
        obtain ⟨a2, cc2, rfl⟩ := owns_shape hv5
        have HO := hid (HST.out w5 _ hv5)
        have b5 := bA.grown hg5 (by simp only [World.size_alloc]; omega) (fun g hg => hlo g hg)
        clear hv5 hg5 oA bA HST hlo
        go_wp2
        go_roundw
        case rel => exact ⟨k + 1, hlt, by go_num, HO.out, b5⟩
        case measure => simp [intOf]; omega
    · have hkl : k = l.length := by omega
      subst hkl
      rw [List.take_length] at ho
      obtain ⟨ao2, cap2, rfl⟩ := owns_shape ho
      have FIN := hid (And.intro ho bk)
      clear ho bk
      go_wp2
      go_ret
      exact ⟨_, rfl, FIN.out⟩
end Dw
end Go.Proofs.YtjamgmbdilkbcaaGreat

/- The document's account: fetch. -/
namespace Go.Proofs.YtjamgmbdilkbcaaGreat
open Go.RowKit

namespace Dw
open Dr (Gg Rm)

section
variable {w w' : World} {B gq rq : Nat} {C : Cx} {g : Gg} {r : Rm} {hv sv pv kv v' : Value}
theorem Sx.setHolds (h : Sx w B gq rq C g r hv sv pv kv) {l : List Dr.Hd} (hb : Below w.heap.size w w') (ho : w'.ownsRow w.heap.size 145 3 v' l.length (hc l)) :
    Sx (w'.setCell ⟨gq, 2, none⟩ v') B gq rq C { g with holds := l } r v' sv pv kv := by
  have hnm := h.named
  obtain ⟨a1, a2⟩ := h.apart
  have h1 := h.below hb
  have hset : ∀ k, k ≠ gq -> (w'.setCell ⟨gq, 2, none⟩ v').heap[k]? = w'.heap[k]? := fun k hk => Below.heap_setCell _ _ _ _ hk
  have keep : ∀ {b e size n : Nat} {v : Value} {xs : List Value}, v ∈ [hv, sv, pv, kv] -> w'.ownsRow b e size v n xs -> (w'.setCell ⟨gq, 2, none⟩ v').ownsRow b e size v n xs := fun hm ho => owns_block ho fun k hk2 => hset k (a2 k (mem_bl hm hk2)).1
  have hnd : (gq :: rq :: bl [v', sv, pv, kv]).Nodup := by
    have h0 : ([gq, rq] ++ (hv.ownBlock.toList ++ bl [sv, pv, kv])).Nodup := by simpa [bl] using h.nd
    cases hk : v'.ownBlock with
    | none =>
      rw [List.nodup_append] at h0
      obtain ⟨n1, n2, n3⟩ := h0
      rw [List.nodup_append] at n2
      have : ([gq, rq] ++ bl [sv, pv, kv]).Nodup := by
        rw [List.nodup_append]
        exact ⟨n1, n2.2.1, fun a ha b hb => n3 a ha b (List.mem_append.2 (.inr hb))⟩
      simpa [bl, hk] using this
    | some k =>
      have hkl := (ho.lt k hk).1
      have hX : k ∉ [gq, rq] := fun hm => by have := hnm k (by simp only [List.mem_cons, List.not_mem_nil, or_false] at hm ⊢; rcases hm with hm | hm; exact .inl hm; exact .inr (.inl hm)); omega
      have hT : k ∉ bl [sv, pv, kv] := fun hm => by have := hnm k (by simp only [List.mem_cons]; exact .inr (.inr (by simp [bl] at hm ⊢; exact .inr hm))); omega
      have := nd_swap h0 hX hT
      simpa [bl, hk] using this
  have hvg : ∀ k, v'.ownBlock = some k -> k ≠ gq := fun k hk e => (List.nodup_cons.1 hnd).1 (by rw [<- e]; exact List.mem_cons_of_mem _ (mem_bl (v := v') (by simp) hk))
  refine ⟨by have := h1.gb; simp [World.setCell, Array.getElem?_modify, this, gcells], (hset rq (fun e => a1 e.symm)).trans h1.rb, ?_, keep (by simp) h1.so, keep (by simp) h1.po, keep (by simp) h1.ko, h.lt, h.le, hnd, fun k hk => ⟨by have := (h1.pr k hk).1; simpa using this, fun hm => ?_⟩⟩
  rotate_left
  · have hp := h.pr k hk
    simp only [List.mem_cons, bl, List.flatMap_cons, List.flatMap_nil, List.append_nil, List.mem_append] at hp hm
    rcases hm with hm | hm | hm | hm
    · exact hp.2 (.inl hm)
    · exact hp.2 (.inr (.inl hm))
    · have := (ho.lt k (by simpa using hm)).1
      omega
    · exact hp.2 (.inr (.inr (.inr hm)))
  have ho2 : w'.ownsRow 0 145 3 v' l.length (hc l) := by
    refine ⟨ho.1, ?_⟩
    rcases ho.2 with hn | ⟨g', cap', cur, e1, e2, e3⟩
    · exact .inl hn
    · exact .inr ⟨g', cap', cur, e1, Nat.zero_le _, e3⟩
  exact owns_block ho2 fun k hk => hset k (hvg k hk)
theorem lo_holds (h : Sx w B gq rq C g r hv sv pv kv) (hb : Below w.heap.size w w') (v : Value) : Lo B gq C.P w (w'.setCell ⟨gq, 2, none⟩ v) :=
  (h.loB hb).trans (Lo.set (p := ⟨gq, 2, none⟩) (.inl rfl) h.npg v)
end

set_option maxRecDepth 100000 in
set_option maxHeartbeats 2000000 in
theorem dfetch_any (w : World) (B gq rq : Nat) (C : Cx) (g : Gg) (r : Rm) (kind : Int) (h : SO w B gq rq C g r) (hl : r.stk.length <= 16) (hh : g.holds.length <= 900000) :
    Calls Tryz.prog 113 #[.pointer (some ⟨gq, 0, none⟩), .pointer (some ⟨rq, 0, none⟩), .int .i64 15, .int .i64 kind] w fun e w' => e = .returned (.tuple #[]) /\ OpOut w w' B gq rq C (Dr.account C.who 15 kind g r) := by
  obtain ⟨hv, sv, pv, kv, h⟩ := h
  have hHs := owns_hs h.ho
  have c2 := h.c2
  have c3 := h.c3
  have CF := hid (find_any g.holds hv C.who kind w.drew (owns_hs (h.below (Below.refl _ _).drew).ho) (by omega))
  have HD : Hid (Dr.account C.who 15 kind g r = if (Dr.wrong (Dr.find g.holds C.who kind < 0) 7 g).err = 0 then Dr.put kind ((Dr.wrong (Dr.find g.holds C.who kind < 0) 7 g).holds.getD (Dr.find g.holds C.who kind).toNat ⟨0, 0, 0⟩).n { Dr.wrong (Dr.find g.holds C.who kind < 0) 7 g with holds := Dr.without (Dr.wrong (Dr.find g.holds C.who kind < 0) 7 g).holds (Dr.find g.holds C.who kind) } r else (Dr.wrong (Dr.find g.holds C.who kind < 0) 7 g, r)) := hid rfl
  have hsz := Nat.le_of_lt (Nat.lt_of_le_of_lt h.le h.rl)
  have HX := hid fun (W : World) (hb : Below w.heap.size w W) => h.below hb
  have HLo := hid fun (W : World) (hb : Below w.heap.size w W) => h.loB hb
  obtain ⟨ao, cap, hvs⟩ := owns_shape h.ho
  subst hvs
  have hgl := h.gl
  have hfi : ∀ {n : Int}, Dr.val C.who kind g.holds = some n -> ∃ i : Nat, Dr.find g.holds C.who kind = i /\ i < g.holds.length := fun hv => by
    obtain ⟨i, _, hi, hl, _⟩ := Dr.find_some hv
    exact ⟨i, hi, hl⟩
  by_cases he : g.err = 0
  · by_cases hneg : Dr.find g.holds C.who kind < 0
    · rw [Dr.wrong_yes hneg 7 he] at HD
      rw [if_neg (by simp)] at HD
      generalize Dr.find g.holds C.who kind = FI at *
      clear h hHs hfi
      go_enter Tryz.func113, Tryz.ntmps113
      go_wp2_with fail
      go_region_held3 (fun w' => w'.cell? ⟨gq, 2, none⟩ = some (.slice ao g.holds.length cap) /\ w'.cell? ⟨gq, 3, none⟩ = some (.int .i64 C.who))
        (first | exact ⟨c2, c3⟩ | exact ⟨(hb1.cell (p := ⟨gq, 2, none⟩) hgl).trans c2, (hb1.cell (p := ⟨gq, 3, none⟩) hgl).trans c3⟩)
        ((go_at_call 64; refine CF.out.mono ?_; rintro e w1 ⟨rfl, hb1⟩))
      have hb1 := mdrew hb1
      have X1 := HX.out w1 hb1
      go_wp2_with fail
      refine (wrong_any w1 B gq rq C g r _ sv pv kv _ 7 X1).mono ?_
      rintro e w2 ⟨rfl, X2, g2⟩
      rw [Dr.wrong_yes rfl 7 he] at X2
      have c6 := X2.c6
      simp only at c6
      have FF := hid (show OpOut w w2 B gq rq C ({ g with err := 7 }, r) from ⟨⟨_, _, _, _, X2⟩, (HLo.out w1 hb1).trans (X1.loW g2)⟩)
      clear X1 X2 g2 HX HLo CF
      go_wp2
      refine bodyPost_ret (results_none rfl _ _ _) rfl ?_
      rw [HD.out]
      exact ⟨rfl, FF.out⟩
    · have hval : ∃ n, Dr.val C.who kind g.holds = some n := by
        cases hv : Dr.val C.who kind g.holds with
        | none => exact absurd (Dr.find_neg.2 hv) hneg
        | some n => exact ⟨n, rfl⟩
      obtain ⟨n, hn⟩ := hval
      obtain ⟨i, hi, hil⟩ := hfi hn
      rw [Dr.wrong_no hneg, if_pos he, hi, show ((i : Int)).toNat = i from by omega] at HD
      rw [hi] at CF hneg
      clear hfi hn
      obtain ⟨ao', cap', b', hvv, q1, q2⟩ := hHs
      simp only [Value.slice.injEq, true_and] at hvv
      obtain ⟨rfl, rfl⟩ := hvv
      obtain ⟨rfl, hbl⟩ := q1 (by omega)
      obtain ⟨_, _, n3⟩ := q2 i hil
      have HRD := hid fun (W : World) (X : Sx W B gq rq C g r (.slice (some ⟨b', 0, none⟩) g.holds.length cap) sv pv kv) => show W.cell? ⟨b', i * 3 + 2, none⟩ = some (.int .i64 (g.holds.getD i ⟨0, 0, 0⟩).n) from by
        obtain ⟨ao2, cap2, b2, e2, p1, p2⟩ := owns_hs X.ho
        simp only [Value.slice.injEq, true_and] at e2
        obtain ⟨rfl, rfl⟩ := e2
        have := (p1 (by omega)).1
        simp only [Option.some.injEq, Addr.mk.injEq, and_true] at this
        subst this
        exact (p2 i hil).2.2
      have CW := hid fun (W : World) (X : Sx W B gq rq C g r (.slice (some ⟨b', 0, none⟩) g.holds.length cap) sv pv kv) => without_any g.holds _ i W (owns_hs X.ho) (by omega)
      clear h q1 q2 n3
      generalize (g.holds.getD i ⟨0, 0, 0⟩).n = NV at *
      generalize Dr.without g.holds i = WO at *
      generalize g.holds.length = GL at *
      go_enter Tryz.func113, Tryz.ntmps113
      go_wp2_with fail
      go_region_held3 (fun w' => w'.cell? ⟨gq, 2, none⟩ = some (.slice (some ⟨b', 0, none⟩) GL cap) /\ w'.cell? ⟨gq, 3, none⟩ = some (.int .i64 C.who))
        (first | exact ⟨c2, c3⟩ | exact ⟨(hb1.cell (p := ⟨gq, 2, none⟩) hgl).trans c2, (hb1.cell (p := ⟨gq, 3, none⟩) hgl).trans c3⟩)
        ((go_at_call 64; refine CF.out.mono ?_; rintro e w1 ⟨rfl, hb1⟩))
      have hb1 := mdrew hb1
      have X1 := HX.out w1 hb1
      go_wp2_with fail
      refine (wrong_any w1 B gq rq C g r _ sv pv kv _ 7 X1).mono ?_
      rintro e w2 ⟨rfl, X2, g2⟩
      rw [Dr.wrong_no (by simp)] at X2
      have c6 := X2.c6
      rw [he] at c6
      have d2 := X2.c2
      have dn := HRD.out w2 X2
      have CW2 := hid (CW.out w2 X2)
      have HX3 := hid fun (W : World) (hb : Below w2.heap.size w2 W) (v3 : Value) (ho : W.ownsRow w2.heap.size 145 3 v3 WO.length (hc WO)) => And.intro (And.intro (X2.below hb).c2 ((X2.below hb).gz 2)) (And.intro (X2.setHolds hb ho) (lo_holds X2 hb v3))
      have L2 := (HLo.out w1 hb1).trans (X1.loW g2)
      have hil2 : i < 900000 := by omega
      clear X1 X2 g2 HX HLo CF CW HRD c2 c3 hb1
      go_wp2_with fail
      refine CW2.out.mono ?_
      rintro e w3 ⟨v3, rfl, ho3, hb3⟩
      obtain ⟨⟨y2, yz⟩, X3, L3⟩ := HX3.out w3 hb3 v3 ho3
      obtain ⟨ao3, cap3, rfl⟩ := owns_shape ho3
      have CP := hid (dput_any _ B gq rq C _ r kind NV ⟨_, _, _, _, X3⟩ (by omega))
      clear HX3 CW2 ho3 hb3 X3
      go_wp2_with fail
      refine CP.out.mono ?_
      rintro e w4 ⟨rfl, o4⟩
      have FF := hid (show OpOut w w4 B gq rq C _ from ⟨o4.1, (L2.trans L3).trans o4.2⟩)
      clear CP o4 L2 L3
      go_wp2
      refine bodyPost_ret (results_none rfl _ _ _) rfl ?_
      rw [HD.out]
      exact ⟨rfl, FF.out⟩
  · have hw : Dr.wrong (Dr.find g.holds C.who kind < 0) 7 g = g := by unfold Dr.wrong; rw [if_neg (fun x => he x.2)]
    rw [hw, if_neg he] at HD
    have n1 : (g.err == 0) = false := by simpa using he
    have n2 : (g.err != 0) = true := by simpa using he
    generalize Dr.find g.holds C.who kind = FI at *
    clear h hHs hfi hw
    have hwb : ∀ b : Bool, Dr.wrong (b = true) 7 g = g := fun b => by unfold Dr.wrong; rw [if_neg (fun x => he x.2)]
    go_enter Tryz.func113, Tryz.ntmps113
    go_wp2_with fail
    go_region_held3 (fun w' => w'.cell? ⟨gq, 2, none⟩ = some (.slice ao g.holds.length cap) /\ w'.cell? ⟨gq, 3, none⟩ = some (.int .i64 C.who))
      (first | exact ⟨c2, c3⟩ | exact ⟨(hb1.cell (p := ⟨gq, 2, none⟩) hgl).trans c2, (hb1.cell (p := ⟨gq, 3, none⟩) hgl).trans c3⟩)
      ((go_at_call 64; refine CF.out.mono ?_; rintro e w1 ⟨rfl, hb1⟩))
    have hb1 := mdrew hb1
    have X1 := HX.out w1 hb1
    go_wp2_with fail
    refine (wrong_any w1 B gq rq C g r _ sv pv kv _ 7 X1).mono ?_
    rintro e w2 ⟨rfl, X2, g2⟩
    rw [hwb] at X2
    have c6 := X2.c6
    have FF := hid (show OpOut w w2 B gq rq C (g, r) from ⟨⟨_, _, _, _, X2⟩, (HLo.out w1 hb1).trans (X1.loW g2)⟩)
    clear X1 X2 g2 HX HLo CF c2 c3
    go_wp2
    refine bodyPost_ret (results_none rfl _ _ _) rfl ?_
    rw [HD.out]
    exact ⟨rfl, FF.out⟩
end Dw
end Go.Proofs.YtjamgmbdilkbcaaGreat

/- The document's spot. -/
namespace Go.Proofs.YtjamgmbdilkbcaaGreat
open Go.RowKit

namespace Dw
open Dr (Gg Rm)

theorem pc_get : ∀ (l : List (Bool × Int × Int)) (i : Nat), i < l.length -> (pc l)[i * 3]? = some (.bool (l.getD i Dr.noSpot).1) /\ (pc l)[i * 3 + 1]? = some (.int .i64 (l.getD i Dr.noSpot).2.1) /\ (pc l)[i * 3 + 2]? = some (.int .i64 (l.getD i Dr.noSpot).2.2)
  | [], i, h => absurd h (by simp)
  | a :: l, 0, _ => ⟨by simp [pc], by simp [pc], by simp [pc]⟩
  | a :: l, i + 1, h => by
    have ih := pc_get l i (by simpa using h)
    have e : pc (a :: l) = [.bool a.1, .int .i64 a.2.1, .int .i64 a.2.2] ++ pc l := by simp [pc]
    rw [e]
    refine ⟨?_, ?_, ?_⟩
    · rw [List.getElem?_append_right (by simp; omega)]; simp only [List.length_cons, List.length_nil]; rw [show (i + 1) * 3 - (0 + 1 + 1 + 1) = i * 3 from by omega]; simpa using ih.1
    · rw [List.getElem?_append_right (by simp; omega)]; simp only [List.length_cons, List.length_nil]; rw [show (i + 1) * 3 + 1 - (0 + 1 + 1 + 1) = i * 3 + 1 from by omega]; simpa using ih.2.1
    · rw [List.getElem?_append_right (by simp; omega)]; simp only [List.length_cons, List.length_nil]; rw [show (i + 1) * 3 + 2 - (0 + 1 + 1 + 1) = i * 3 + 2 from by omega]; simpa using ih.2.2
theorem pc_set : ∀ (l : List (Bool × Int × Int)) (i : Nat) (v : Bool × Int × Int), i < l.length -> (((pc l).set (i * 3) (.bool v.1)).set (i * 3 + 1) (.int .i64 v.2.1)).set (i * 3 + 2) (.int .i64 v.2.2) = pc (l.set i v)
  | [], i, v, h => absurd h (by simp)
  | a :: l, 0, v, _ => by simp [pc]
  | a :: l, i + 1, v, h => by
    have ih := pc_set l i v (by simpa using h)
    have e : pc (a :: l) = .bool a.1 :: .int .i64 a.2.1 :: .int .i64 a.2.2 :: pc l := by simp [pc]
    have e2 : pc ((a :: l).set (i + 1) v) = .bool a.1 :: .int .i64 a.2.1 :: .int .i64 a.2.2 :: pc (l.set i v) := by simp [pc]
    rw [e, e2, <- ih, show (i + 1) * 3 = i * 3 + 1 + 1 + 1 from by omega, show i * 3 + 1 + 1 + 1 + 1 = (i * 3 + 1) + 1 + 1 + 1 from by omega, show i * 3 + 1 + 1 + 1 + 2 = (i * 3 + 2) + 1 + 1 + 1 from by omega]
    simp only [List.set_cons_succ]
theorem owns_at {w : World} {B e size n g cap : Nat} {xs : List Value} (h : w.ownsRow B e size (.slice (some ⟨g, 0, none⟩) n cap) n xs) (j : Nat) (u : Value) : (w.setCell ⟨g, j, none⟩ u).ownsRow B e size (.slice (some ⟨g, 0, none⟩) n cap) n (xs.set j u) := by
  refine ⟨by simpa using h.1, .inr ?_⟩
  rcases h.2 with ⟨hh, _⟩ | ⟨g', cap', cur, hh, hB, hg, hnc, hcm, hcs, htake⟩
  · simp at hh
  · simp only [Value.slice.injEq, Option.some.injEq, Addr.mk.injEq, and_true, true_and] at hh
    obtain ⟨rfl, rfl⟩ := hh
    refine ⟨g, cap, cur.setIfInBounds j u, rfl, hB, by simp [World.setCell, Array.getElem?_modify, hg], hnc, hcm, by simpa using hcs, ?_⟩
    rw [Array.toList_setIfInBounds, <- htake, List.take_set]
section
variable {w : World} {B gq rq gp cap : Nat} {C : Cx} {g : Gg} {r : Rm} {hv sv kv : Value}
theorem Sx.setSpot (h : Sx w B gq rq C g r hv sv (.slice (some ⟨gp, 0, none⟩) r.spots.length cap) kv) {i : Nat} (hi : i < r.spots.length) (v : Bool × Int × Int) :
    Sx (((w.setCell ⟨gp, i * 3, none⟩ (.bool v.1)).setCell ⟨gp, i * 3 + 1, none⟩ (.int .i64 v.2.1)).setCell ⟨gp, i * 3 + 2, none⟩ (.int .i64 v.2.2)) B gq rq C g { r with spots := r.spots.set i v } hv sv (.slice (some ⟨gp, 0, none⟩) r.spots.length cap) kv := by
  obtain ⟨a1, a2⟩ := h.apart
  have hgp := a2 gp (mem_bl (v := .slice (some ⟨gp, 0, none⟩) r.spots.length cap) (by simp) rfl)
  have hset : ∀ k, k ≠ gp -> (((w.setCell ⟨gp, i * 3, none⟩ (.bool v.1)).setCell ⟨gp, i * 3 + 1, none⟩ (.int .i64 v.2.1)).setCell ⟨gp, i * 3 + 2, none⟩ (.int .i64 v.2.2)).heap[k]? = w.heap[k]? := fun k hk => by
    rw [Below.heap_setCell _ _ _ _ hk, Below.heap_setCell _ _ _ _ hk, Below.heap_setCell _ _ _ _ hk]
  have hnd : ((gq :: rq :: (hv.ownBlock.toList ++ sv.ownBlock.toList)) ++ ([gp] ++ kv.ownBlock.toList)).Nodup := by
    have := h.nd
    simpa [bl, Value.ownBlock] using this
  rw [List.nodup_append] at hnd
  obtain ⟨_, n2, n3⟩ := hnd
  rw [List.nodup_append] at n2
  have keep1 : ∀ {b e size n : Nat} {u : Value} {xs : List Value}, u ∈ [hv, sv] -> w.ownsRow b e size u n xs -> (((w.setCell ⟨gp, i * 3, none⟩ (.bool v.1)).setCell ⟨gp, i * 3 + 1, none⟩ (.int .i64 v.2.1)).setCell ⟨gp, i * 3 + 2, none⟩ (.int .i64 v.2.2)).ownsRow b e size u n xs := fun {_ _ _ _ u _} hm ho => owns_block ho fun k hk => hset k (fun e => by
    refine n3 k ?_ gp (by simp) e
    simp only [List.mem_cons, List.not_mem_nil, or_false] at hm
    simp only [List.mem_cons, List.mem_append]
    rcases hm with rfl | rfl
    · exact .inr (.inr (.inl (by rw [hk]; simp)))
    · exact .inr (.inr (.inr (by rw [hk]; simp))))
  have hp := owns_at (owns_at (owns_at h.po (i * 3) (.bool v.1)) (i * 3 + 1) (.int .i64 v.2.1)) (i * 3 + 2) (.int .i64 v.2.2)
  rw [pc_set _ _ _ hi] at hp
  refine ⟨(hset gq (fun e => hgp.1 e.symm)).trans h.gb, (hset rq (fun e => hgp.2 e.symm)).trans h.rb, keep1 (by simp) h.ho, keep1 (by simp) h.so, by simpa using hp, owns_block h.ko fun k hk => hset k (fun e => n2.2.2 gp (by simp) k (by rw [hk]; simp) e.symm), h.lt, h.le, h.nd, fun k hk => ⟨by simpa using (h.pr k hk).1, (h.pr k hk).2⟩⟩
theorem lo_spot {i : Nat} (hB : B <= gp) (hP : ¬ C.P gp) (v : Bool × Int × Int) : Lo B gq C.P w (((w.setCell ⟨gp, i * 3, none⟩ (.bool v.1)).setCell ⟨gp, i * 3 + 1, none⟩ (.int .i64 v.2.1)).setCell ⟨gp, i * 3 + 2, none⟩ (.int .i64 v.2.2)) :=
  ((Lo.set (p := ⟨gp, i * 3, none⟩) (.inr hB) hP _).trans (Lo.set (p := ⟨gp, i * 3 + 1, none⟩) (.inr hB) hP _)).trans (Lo.set (p := ⟨gp, i * 3 + 2, none⟩) (.inr hB) hP _)
theorem SO.spots {w : World} (h : SO w B gq rq C g r) {i : Nat} (hi : i < r.spots.length) :
    ∃ gp cap, w.cell? ⟨rq, 1, none⟩ = some (.slice (some ⟨gp, 0, none⟩) r.spots.length cap) /\ B <= gp /\ w.cell? ⟨gp, i * 3, none⟩ = some (.bool (r.spots.getD i Dr.noSpot).1) /\ w.cell? ⟨gp, i * 3 + 1, none⟩ = some (.int .i64 (r.spots.getD i Dr.noSpot).2.1) /\ w.cell? ⟨gp, i * 3 + 2, none⟩ = some (.int .i64 (r.spots.getD i Dr.noSpot).2.2) /\ (∀ j, w.frozen? ⟨gp, j, none⟩ = false) /\
      ∀ v, OpOut w (((w.setCell ⟨gp, i * 3, none⟩ (.bool v.1)).setCell ⟨gp, i * 3 + 1, none⟩ (.int .i64 v.2.1)).setCell ⟨gp, i * 3 + 2, none⟩ (.int .i64 v.2.2)) B gq rq C (g, { r with spots := r.spots.set i v }) := by
  obtain ⟨hv, sv, pv, kv, h⟩ := h
  obtain ⟨av, cap, hpv⟩ := owns_shape h.po
  subst hpv
  have hav : ∃ gp, av = some ⟨gp, 0, none⟩ /\ B <= gp /\ ∀ j, w.frozen? ⟨gp, j, none⟩ = false := by
    rcases h.po.2 with ⟨_, hn⟩ | ⟨g', cap', cur, hh, hB, hg, _⟩
    · omega
    · simp only [Value.slice.injEq, true_and] at hh
      exact ⟨g', hh.1, hB, fun j => by simp [World.frozen?, hg]⟩
  obtain ⟨gp, rfl, hB, hz⟩ := hav
  obtain ⟨g0, g1, g2⟩ := pc_get r.spots i hi
  have k0 := h.po.cells (g := gp) rfl _ _ g0
  have k1 := h.po.cells (g := gp) rfl _ _ g1
  have k2 := h.po.cells (g := gp) rfl _ _ g2
  rw [addr_add] at k0 k1 k2
  exact ⟨gp, cap, h.r1, hB, by simpa using k0, by simpa using k1, by simpa using k2, hz, fun v => ⟨⟨_, _, _, _, h.setSpot hi v⟩, lo_spot hB (h.npb (v := .slice (some ⟨gp, 0, none⟩) r.spots.length cap) (by simp) rfl) v⟩⟩
theorem SO.kinds {w : World} (h : SO w B gq rq C g r) {i : Nat} (hi : i < r.kinds.length) :
    ∃ gk cap, w.cell? ⟨rq, 2, none⟩ = some (.slice (some ⟨gk, 0, none⟩) r.kinds.length cap) /\ w.cell? ⟨gk, i, none⟩ = some (.int .i64 (r.kinds.getD i 0)) := by
  obtain ⟨hv, sv, pv, kv, h⟩ := h
  obtain ⟨av, cap, hkv⟩ := owns_shape h.ko
  subst hkv
  have hav : ∃ gk, av = some ⟨gk, 0, none⟩ := by
    rcases h.ko.2 with ⟨_, hn⟩ | ⟨g', cap', cur, hh, _⟩
    · omega
    · simp only [Value.slice.injEq, true_and] at hh
      exact ⟨g', hh.1⟩
  obtain ⟨gk, rfl⟩ := hav
  have k0 := h.ko.cells (g := gk) rfl i (.int .i64 (r.kinds.getD i 0)) (by simp [kc, List.getD_eq_getElem?_getD, hi])
  rw [addr_add] at k0
  exact ⟨gk, cap, h.r2, by simpa using k0⟩
end
end Dw
end Go.Proofs.YtjamgmbdilkbcaaGreat
