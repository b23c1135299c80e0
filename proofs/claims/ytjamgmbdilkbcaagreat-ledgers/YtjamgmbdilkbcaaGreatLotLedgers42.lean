import Derived.Test.YtjamgmbdilkbcaaGreatLotLedgers41
/- The document's returns. -/
namespace Go.Proofs.YtjamgmbdilkbcaaGreat
open Go.RowKit

namespace Dw
open Dr (Gg Rm)

def WG (bad : Prop) (g G : Gg) : Prop := (bad -> G = Dr.wrong True 99 g) /\ (¬ bad -> G = g)
theorem WG.step {bad : Prop} {g G : Gg} (h : WG bad g G) (b : Bool) : WG (bad \/ b = true) g (Dr.wrong (b = true) 99 G) := by
  have ww : ∀ (b : Bool), Dr.wrong (b = true) 99 (Dr.wrong True 99 g) = Dr.wrong True 99 g := fun b => by
    unfold Dr.wrong
    by_cases he : g.err = 0
    · simp [he]
    · simp [he]
  by_cases hb : bad
  · rw [h.1 hb]
    exact ⟨fun _ => ww b, fun hn => absurd (.inl hb) hn⟩
  · rw [h.2 hb]
    refine ⟨fun hx => ?_, fun hn => ?_⟩
    · have hbt : b = true := by rcases hx with hx | hx; exact absurd hx hb; exact hx
      exact wrong_iff (by simp [hbt]) 99 g
    · exact Dr.wrong_no (fun hx => hn (.inr hx)) 99 g
theorem WG.congr {P Q : Prop} {g G : Gg} (h : WG P g G) (e : P ↔ Q) : WG Q g G := ⟨fun q => h.1 (e.2 q), fun q => h.2 (fun p => q (e.1 p))⟩
theorem WG.fin {P : Prop} [Decidable P] {g G : Gg} (h : WG P g G) : G = Dr.wrong P 99 g := by
  by_cases hp : P
  · rw [h.1 hp]; exact wrong_iff (by simp [hp]) 99 g
  · rw [h.2 hp, Dr.wrong_no hp]
theorem wg0 (g : Gg) : WG False g g := ⟨fun h => h.elim, fun _ => rfl⟩
theorem fst_ne {a : List (Int × Int)} {b : List Int} : a.map Prod.fst ≠ b ↔ (a.length ≠ b.length \/ ∃ j, j < a.length /\ j < b.length /\ (a.getD j (0, 0)).1 ≠ b.getD j 0) := by
  constructor
  · intro h
    by_cases hl : a.length = b.length
    · right
      apply Classical.byContradiction
      intro hn
      apply h
      apply List.ext_getElem?
      intro j
      by_cases hj : j < a.length
      · have hjb : j < b.length := by omega
        have : (a.getD j (0, 0)).1 = b.getD j 0 := Classical.byContradiction fun hx => hn ⟨j, hj, hjb, hx⟩
        simp only [List.getD_eq_getElem?_getD, List.getElem?_eq_getElem hj, List.getElem?_eq_getElem hjb, Option.getD_some] at this
        simp [List.getElem?_map, List.getElem?_eq_getElem hj, List.getElem?_eq_getElem hjb, this]
      · rw [List.getElem?_eq_none (by simp; omega), List.getElem?_eq_none (by omega)]
    · exact .inl hl
  · rintro (h | ⟨j, h1, h2, h3⟩) e
    · apply h; rw [<- e]; simp
    · apply h3
      rw [<- e]
      simp [List.getD_eq_getElem?_getD, h1]
theorem vc_get : ∀ (l : List (Int × Int)) (i : Nat), i < l.length -> (vc l)[i * 2]? = some (.int .i64 (l.getD i (0, 0)).1) /\ (vc l)[i * 2 + 1]? = some (.int .i64 (l.getD i (0, 0)).2)
  | [], i, h => absurd h (by simp)
  | a :: l, 0, _ => ⟨by simp [vc], by simp [vc]⟩
  | a :: l, i + 1, h => by
    have ih := vc_get l i (by simpa using h)
    have e : vc (a :: l) = [.int .i64 a.1, .int .i64 a.2] ++ vc l := by simp [vc]
    rw [e]
    refine ⟨?_, ?_⟩
    · rw [List.getElem?_append_right (by simp; omega)]; simp only [List.length_cons, List.length_nil]; rw [show (i + 1) * 2 - (0 + 1 + 1) = i * 2 from by omega]; simpa using ih.1
    · rw [List.getElem?_append_right (by simp; omega)]; simp only [List.length_cons, List.length_nil]; rw [show (i + 1) * 2 + 1 - (0 + 1 + 1) = i * 2 + 1 from by omega]; simpa using ih.2
theorem own_at {w : World} {B n cap : Nat} {ao : Option Addr} {l : List (Int × Int)} (ho : w.ownsRow B 192 2 (.slice ao n cap) l.length (vc l)) (i : Nat) (hi : i < l.length) :
    ∃ gs, ao = some ⟨gs, 0, none⟩ /\ w.cell? ⟨gs, i * 2, none⟩ = some (.int .i64 (l.getD i (0, 0)).1) /\ w.cell? ⟨gs, i * 2 + 1, none⟩ = some (.int .i64 (l.getD i (0, 0)).2) := by
  rcases ho.2 with ⟨_, hn⟩ | ⟨g', cap', cur, hh, _⟩
  · omega
  · simp only [Value.slice.injEq] at hh
    obtain ⟨rfl, _, _⟩ := hh
    obtain ⟨h1, h2⟩ := vc_get l i hi
    have k1 := ho.cells (g := g') rfl _ _ h1
    have k2 := ho.cells (g := g') rfl _ _ h2
    rw [addr_add] at k1 k2
    exact ⟨g', rfl, by simpa using k1, by simpa using k2⟩
def RetOut (w w' : World) (B gq rq : Nat) (C : Cx) (m : Pu.Md) (f : Pu.Fn) (g : Gg) (r : Rm) (hv sv pv kv : Value) (e : Ending) : Prop :=
  e = .returned sv /\ Sx w' B gq rq C (Dr.wrong (Dr.badRet m f r) 99 g) r hv sv pv kv /\ w.grownBy w' (some gq)
set_option maxRecDepth 100000 in
set_option maxHeartbeats 4000000 in
theorem dreturns_any (w : World) (B gq rq : Nat) (C : Cx) (m : Pu.Md) (f : Pu.Fn) (x : FV) (g : Gg) (r : Rm) (hv sv pv kv : Value) (h : Sx w B gq rq C g r hv sv pv kv) (hm : MdR w gq C.ck C.cf m) (hf : FnR w gq x f) (hs : r.spots.length = r.kinds.length) (hk : ∀ k ∈ r.kinds, 0 <= k /\ k <= m.kinds.length) (hl : r.stk.length <= 16) (hi8 : r.kinds.length <= 8) (hr3 : f.results.length <= 1000) :
    Calls Tryz.prog 84 #[.pointer (some ⟨gq, 0, none⟩), .pointer (some ⟨rq, 0, none⟩), .agg #[x.p, x.r, x.l, x.c]] w fun e w' => RetOut w w' B gq rq C m f g r hv sv pv kv e := by
  obtain ⟨x1, y1, x2, y2, x3, y3, x4, y4, rfl⟩ := hf.shape
  obtain ⟨ao, acap, hsv⟩ := owns_shape h.so
  subst hsv
  obtain ⟨O, hO⟩ : ∃ O, O = Obj.cells #[.slice x1 f.params.length y1, .slice x2 f.results.length y2, .slice x3 f.locals.length y3, .slice x4 f.code.length y4] 62 := ⟨_, rfl⟩
  have al := (Below.refl w.heap.size w).alloc (Nat.le_refl _) O
  have fb : F4 (w.alloc O) w.heap.size 62 (.slice x1 f.params.length y1) (.slice x2 f.results.length y2) (.slice x3 f.locals.length y3) (.slice x4 f.code.length y4) := by rw [hO]; exact heap_alloc_new w _
  have hA := h.below al
  have hgl := h.gl
  have hz0 : w.heap.size < (w.alloc O).heap.size := by simp
  subst hO
  generalize hW0 : w.alloc (Obj.cells #[.slice x1 f.params.length y1, .slice x2 f.results.length y2, .slice x3 f.locals.length y3, .slice x4 f.code.length y4] 62) = W0 at *
  have HW0 := hid hW0
  clear hW0
  have g0 : w.grownBy W0 (some gq) := grown_below al _
  have r0 := hA.r0
  have d1 := fb.c1
  have hrl := hA.rl
  have hglA := hA.gl
  have ne1 : w.heap.size ≠ gq := by omega
  have hfr := hf.r
  have CW := hid fun (b : Bool) => wrong_any W0.drew B gq rq C g r hv _ pv kv b 99 (hA.below (Below.refl _ _).drew)
  go_enter Tryz.func84, Tryz.ntmps84
  go_wp2_with fail
  rw [HW0.out]
  go_region_held3 (fun w' => w'.cell? ⟨rq, 0, none⟩ = some (.slice ao r.stk.length acap) /\ w'.cell? ⟨w.heap.size, 1, none⟩ = some (.slice x2 f.results.length y2))
    (first | exact ⟨r0, d1⟩ | exact ⟨X1.r0, g1.cell (show W0.drew.cell? ⟨w.heap.size, 1, none⟩ = _ from d1) (by simp; omega)⟩)
    ((go_at_call 108; refine (CW.out _).mono ?_; rintro e w1 ⟨rfl, X1, g1⟩))
  have gd : W0.grownBy w1 (some gq) := grown_trans (grown_alike (w' := W0.drew) (grown_refl W0 (some gq)) ⟨rfl, rfl, rfl, rfl⟩) g1
  have WG1 : WG (r.stk.length ≠ f.results.length \/ ∃ j, j < 0 /\ (r.stk.getD j (0, 0)).1 ≠ f.results.getD j 0) g (Dr.wrong (((r.stk.length : Int) != (f.results.length : Int)) = true) 99 g) := ((wg0 g).step ((r.stk.length : Int) != (f.results.length : Int))).congr (by
    constructor
    · rintro (h | h)
      · exact h.elim
      · left; intro e; rw [e] at h; simp at h
    · rintro (h | ⟨j, hj, _⟩)
      · right; simpa using fun e : (r.stk.length : Int) = f.results.length => h (by omega)
      · omega)
  generalize Dr.wrong (((r.stk.length : Int) != (f.results.length : Int)) = true) 99 g = G1 at *
  clear CW g1 d1 r0
  go_wp2_with fail
  go_loopw [7] (fun i wr => ∃ (k : Nat) (G : Gg), i = .int .i64 k /\ k <= r.stk.length /\ k <= f.results.length /\ WG (r.stk.length ≠ f.results.length \/ ∃ j, j < k /\ (r.stk.getD j (0, 0)).1 ≠ f.results.getD j 0) g G /\ Sx wr B gq rq C G r hv (.slice ao r.stk.length acap) pv kv /\ W0.grownBy wr (some gq)) (fun i _ => r.stk.length - (intOf i).toNat)
  case atStart => exact ⟨0, G1, rfl, Nat.zero_le _, Nat.zero_le _, WG1, X1, gd⟩
  case round =>
    clear WG1 X1 gd
    obtain ⟨k, G, rfl, hk1, hk2, hWG, X, gk⟩ := hrel
    have r0 := X.r0
    have d1 := gk.cell fb.c1 (by simp; omega)
    by_cases hlt : k < r.stk.length /\ k < f.results.length
    · obtain ⟨l1, l2⟩ := hlt
      obtain ⟨gs, rfl, s1, _⟩ := own_at X.so k l1
      obtain ⟨ro, rcap, rb, roff, hrv, q1, q2⟩ := hfr
      simp only [Value.slice.injEq, true_and] at hrv
      obtain ⟨rfl, rfl⟩ := hrv
      obtain ⟨rfl, hrb⟩ := q1 (by omega)
      have s2 := (grown_trans g0 gk).cell (q2 k l2) (by simp; omega)
      have hs2 : w.heap.size < wr.heap.size := Nat.lt_of_lt_of_le hz0 gk.size
      have hgs : gs ≠ gq := (X.apart.2 gs (mem_bl (v := .slice (some ⟨gs, 0, none⟩) r.stk.length acap) (by simp) rfl)).1
      have HNX : Hid (∀ G2, WG ((r.stk.length ≠ f.results.length \/ ∃ j, j < k /\ (r.stk.getD j (0, 0)).1 ≠ f.results.getD j 0) \/ ((r.stk.getD k (0, 0)).1 != f.results.getD k 0) = true) g G2 -> WG (r.stk.length ≠ f.results.length \/ ∃ j, j < k + 1 /\ (r.stk.getD j (0, 0)).1 ≠ f.results.getD j 0) g G2) := hid fun G2 hh => hh.congr (by
        constructor
        · rintro ((h | ⟨j, hj, hn⟩) | h)
          · exact .inl h
          · exact .inr ⟨j, by omega, hn⟩
          · exact .inr ⟨k, by omega, by simpa using h⟩
        · rintro (h | ⟨j, hj, hn⟩)
          · exact .inl (.inl h)
          · by_cases e : j = k
            · subst e; exact .inr (by simpa using hn)
            · exact .inl (.inr ⟨j, by omega, hn⟩))
      have HST := hid (hWG.step ((r.stk.getD k (0, 0)).1 != f.results.getD k 0))
      have CW := hid fun (b : Bool) => wrong_any wr.drew B gq rq C G r hv _ pv kv b 99 (X.below (Below.refl _ _).drew)
      have hXc := X.r0
      clear hWG q2
      generalize (r.stk.getD k (0, 0)).1 = A0 at *
      generalize f.results.getD k 0 = R0 at *
      go_wp2_with fail
      go_region_held3 (fun w' => w'.cell? ⟨rq, 0, none⟩ = some (.slice (some ⟨gs, 0, none⟩) r.stk.length acap) /\ w'.cell? ⟨w.heap.size, 1, none⟩ = some (.slice (some ⟨rb, roff, none⟩) f.results.length y2) /\ w'.cell? ⟨gs, k * 2, none⟩ = some (.int .i64 A0) /\ w'.cell? ⟨rb, roff + k, none⟩ = some (.int .i64 R0))
        (first | exact ⟨r0, d1, s1, s2⟩ | exact ⟨X1.r0, g1.cell (show wr.drew.cell? ⟨w.heap.size, 1, none⟩ = _ from d1) (by simp; omega), g1.cell (show wr.drew.cell? ⟨gs, k * 2, none⟩ = _ from s1) (by simp; omega), g1.cell (show wr.drew.cell? ⟨rb, roff + k, none⟩ = _ from s2) (by simp; omega)⟩)
        ((go_at_call 108; refine (CW.out _).mono ?_; rintro e w2 ⟨rfl, X1, g1⟩))
      have gk2 : W0.grownBy w2 (some gq) := grown_trans gk (grown_trans (grown_alike (w' := wr.drew) (grown_refl wr (some gq)) ⟨rfl, rfl, rfl, rfl⟩) g1)
      clear CW g1 r0 d1 s1 s2 X gk
      go_wp2
      go_roundw
      case rel => exact ⟨k + 1, _, by go_num, by omega, by omega, HNX.out _ HST.out, X1, gk2⟩
      case measure => simp [intOf]; omega
    · have HP : WG (r.stk.map Prod.fst ≠ f.results \/ ∃ j, j < 0 /\ (r.spots.getD j Dr.noSpot).1 = true /\ Fl.may m (r.kinds.getD j 0) 2 = false) g G := hWG.congr (by
        rw [fst_ne]
        constructor
        · rintro (h | ⟨j, hj, hn⟩)
          · exact .inl (.inl h)
          · exact .inl (.inr ⟨j, by omega, by omega, hn⟩)
        · rintro ((h | ⟨j, h1, h2, hn⟩) | ⟨j, hj, _⟩)
          · exact .inl h
          · by_cases e : r.stk.length = f.results.length
            · exact .inr ⟨j, by omega, hn⟩
            · exact .inl e
          · omega)
      clear hWG hfr
      by_cases hk3 : k < r.stk.length
      all_goals (
        have HMD := hid fun (W : World) (hW : W0.grownBy W (some gq)) => hm.below (grown_low (grown_trans g0 hW) (Nat.le_of_lt hgl))
        obtain ⟨ma1, mc1, hck⟩ := hm.k.shape
        obtain ⟨ma2, mc2, hcf⟩ := hm.v.shape
        have HCK := hid hck
        have HCF := hid hcf
        clear hck hcf hm
        try (have hk5 : decide (k < f.results.length) = false := by (simp; omega))
        go_wp2_with fail
        clear d1 hlt hk1 hk2
        go_loopw [8] (fun i wr => ∃ (k2 : Nat) (G2 : Gg), i = .int .i64 k2 /\ k2 <= r.spots.length /\ WG (r.stk.map Prod.fst ≠ f.results \/ ∃ j, j < k2 /\ (r.spots.getD j Dr.noSpot).1 = true /\ Fl.may m (r.kinds.getD j 0) 2 = false) g G2 /\ Sx wr B gq rq C G2 r hv (.slice ao r.stk.length acap) pv kv /\ W0.grownBy wr (some gq)) (fun i _ => r.spots.length - (intOf i).toNat)
        case atStart => exact ⟨0, G, rfl, Nat.zero_le _, HP, X, gk⟩
        case round =>
          clear HP X gk r0
          obtain ⟨k2, G2, rfl, hkk, hWG2, X2, gk2⟩ := hrel
          have S2 : SO wr B gq rq C G2 r := ⟨_, _, _, _, X2⟩
          by_cases hlt2 : k2 < r.spots.length
          · obtain ⟨gp, cp, y0, _, y1', _, _, _, _⟩ := S2.spots hlt2
            obtain ⟨gkk, ckk, kc1, kc2⟩ := S2.kinds (i := k2) (by omega)
            have hkind := hk (r.kinds.getD k2 0) (by rw [List.getD_eq_getElem?_getD, List.getElem?_eq_getElem (by omega)]; exact List.getElem_mem _)
            have m0 := X2.c0
            have m1 := X2.c1
            have MM := HMD.out wr gk2
            have CM := hid (rmay_any m C.ck C.cf (r.kinds.getD k2 0) 2 wr.drew ((MM.wide (Nat.le_of_lt X2.gl)).below ((Below.refl _ _).drew)) hkind)
            have HNX : Hid (∀ G3, WG ((r.stk.map Prod.fst ≠ f.results \/ ∃ j, j < k2 /\ (r.spots.getD j Dr.noSpot).1 = true /\ Fl.may m (r.kinds.getD j 0) 2 = false) \/ ((r.spots.getD k2 Dr.noSpot).1 && !(Fl.may m (r.kinds.getD k2 0) 2)) = true) g G3 -> WG (r.stk.map Prod.fst ≠ f.results \/ ∃ j, j < k2 + 1 /\ (r.spots.getD j Dr.noSpot).1 = true /\ Fl.may m (r.kinds.getD j 0) 2 = false) g G3) := hid fun G3 hh => hh.congr (by
              constructor
              · rintro ((h | ⟨j, hj, hn⟩) | h)
                · exact .inl h
                · exact .inr ⟨j, by omega, hn⟩
                · exact .inr ⟨k2, by omega, by simpa using h⟩
              · rintro (h | ⟨j, hj, hn⟩)
                · exact .inl (.inl h)
                · by_cases e : j = k2
                  · subst e; exact .inr (by simpa using hn)
                  · exact .inl (.inr ⟨j, by omega, hn⟩))
            have HST := hid (hWG2.step ((r.spots.getD k2 Dr.noSpot).1 && !(Fl.may m (r.kinds.getD k2 0) 2)))
            rw [HCK.out] at m0 CM
            rw [HCF.out] at m1 CM
            have hgl2 := X2.gl
            have hrl2 := X2.rl
            have hgk2 : gkk < wr.heap.size := World.block_lt_of_cell? wr ⟨gkk, k2, none⟩ kc2
            have hgp2 : gp < wr.heap.size := World.block_lt_of_cell? wr ⟨gp, k2 * 3, none⟩ y1'
            have hsk : k2 < r.kinds.length := by omega
            have hk8 : k2 < 8 := by omega
            clear hWG2 MM
            generalize r.kinds.getD k2 0 = KK at *
            generalize Fl.may m KK 2 = MB at *
            generalize (r.spots.getD k2 Dr.noSpot).1 = SF at *
            generalize r.kinds.length = NKL at *
            go_wp2_with fail
            go_region_held3 (fun w' => w'.cell? ⟨gq, 0, none⟩ = some (.slice ma1 m.kinds.length mc1) /\ w'.cell? ⟨gq, 1, none⟩ = some (.slice ma2 m.funcs.length mc2) /\ w'.cell? ⟨rq, 2, none⟩ = some (.slice (some ⟨gkk, 0, none⟩) NKL ckk) /\ w'.cell? ⟨gkk, k2, none⟩ = some (.int .i64 KK))
              (first | exact ⟨m0, m1, kc1, kc2⟩ | exact ⟨(hb2.cell (p := ⟨gq, 0, none⟩) hgl2).trans m0, (hb2.cell (p := ⟨gq, 1, none⟩) hgl2).trans m1, (hb2.cell (p := ⟨rq, 2, none⟩) hrl2).trans kc1, (hb2.cell (p := ⟨gkk, k2, none⟩) hgk2).trans kc2⟩)
              ((go_at_call 99; refine CM.out.mono ?_; rintro e w2 ⟨rfl, hb2⟩))
            have hb2 := mdrew hb2
            have X3 := X2.below hb2
            have e0 := (hb2.cell (p := ⟨rq, 1, none⟩) hrl2).trans y0
            have e1 := (hb2.cell (p := ⟨gp, k2 * 3, none⟩) hgp2).trans y1'
            have gk3 := grown_trans gk2 (grown_below hb2 _)
            clear X2 S2 CM m0 m1 kc1 kc2 y0 y1' gk2
            cases SF <;> cases MB
            all_goals (
              go_wp2_with fail
              refine (wrong_any w2 B gq rq C G2 r hv _ pv kv _ 99 X3).mono ?_
              rintro e w4 ⟨rfl, X4, g4⟩
              have gk4 := grown_trans gk3 g4
              clear X3 gk3 g4 e0 e1
              go_wp2
              go_roundw
              case rel =>
                refine ⟨k2 + 1, _, by go_num, by omega, ?_, X4, gk4⟩
                first
                  | exact HNX.out _ HST.out
                  | (have h5 := HNX.out _ HST.out; simp only [Bool.not_true, Bool.and_false] at h5; exact h5)
                  | (have h5 := HNX.out _ HST.out; simp only [Bool.not_false, Bool.and_true] at h5; exact h5)
              case measure => simp [intOf]; omega)
          · have hkl : k2 = r.spots.length := by omega
            have HB : WG (Dr.badRet m f r) g G2 := hWG2.congr (by rw [hkl])
            have eG := HB.fin
            subst eG
            have FIN : Hid (RetOut w wr B gq rq C m f g r hv (.slice ao r.stk.length acap) pv kv (.returned (.slice ao r.stk.length acap))) := hid ⟨rfl, X2, grown_trans g0 gk2⟩
            have y0 := X2.r1
            have y1' := X2.r0
            obtain ⟨pa, pcap, hpv⟩ := owns_shape X2.po
            rw [hpv] at y0
            clear HB hWG2 X2 gk2 S2 hkl
            go_wp2
            go_ret
            exact FIN.out)
end Dw
end Go.Proofs.YtjamgmbdilkbcaaGreat
