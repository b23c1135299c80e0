import Derived.Test.YtjamgmbdilkbcaaGreatLotLedgers27
/- The machine's step: Fail, and what a frame does by itself. -/
namespace Go.Proofs.YtjamgmbdilkbcaaGreat
open Go.RowKit Mc

set_option maxRecDepth 100000 in
set_option maxHeartbeats 2000000 in
theorem mstepN (r d k : Nat) (m : Pu.Md) (op arg : Int) (hop : op ≠ 0 /\ op ≠ 14 /\ op ≠ 2 /\ op ≠ 3 /\ op ≠ 4 /\ op ≠ 5 /\ op ≠ 15 /\ op ≠ 16 /\ op ≠ 17 /\ op ≠ 18) (mk mv : Value) (M : Mc) (w : World) (h : MR w r mk mv M) (hm : MdR w r mk mv m) (hpar : ∀ f ∈ m.funcs, f.params.length <= 4) (xv : Nat -> Value) (hxv : XvR w m mv xv) (hcd : CodeR w r (M.cv d) (M.cd d)) (hcl : (M.cd d).length <= maxLen)
    (hd8 : d < 8) (hdep : M.depth = (d : Int) + 1) (hk : M.next d = k) (hkl : k < (M.cd d).length) (hx : (M.cd d).getD k (0, 0) = (op, arg)) :
    Calls Tryz.prog 106 #[.pointer (some ⟨r, 0, none⟩)] w fun e w' => MDone w w' r mk mv (Mc.act m xv (M.setI (fr d + 1) ((k : Int) + 1)) d (op, arg)) e := by
  obtain ⟨ML, hML⟩ : ∃ ML, ML = Mc.act m xv (M.setI (fr d + 1) ((k : Int) + 1)) d (op, arg) := ⟨_, rfl⟩
  rw [<- hML]
  have c5 := h.ci (i := 315) (by unfold isI; omega)
  have e5 : M.ints 315 = (d : Int) + 1 := hdep
  rw [e5] at c5
  have cn := h.ci (isI_fr (i := 1) hd8 (by omega) (by omega))
  have en : M.ints (fr d + 1) = (k : Int) := hk
  rw [en] at cn
  have zn := h.fz (fr d + 1)
  have cc := h.cc hd8
  obtain ⟨ao, cap, bc, oc, hcv, h1, h2⟩ := hcd
  rw [hcv] at cc
  have wd8 : (d : Int) < 8 := by omega
  have wd1 : ¬ ((d : Int) + 1 < 1) := by omega
  have wd9 : ¬ (8 < (d : Int) + 1) := by omega
  have f99 : fr d = 99 + d * 27 := rfl
  unfold maxLen at hcl
  obtain ⟨rfl, hbr⟩ := h1 (by omega)
  obtain ⟨k0, k1⟩ := h2 k hkl
  have hbw : bc < w.heap.size := Nat.lt_trans hbr h.lt
  have wk0 : ¬ ((k : Int) < 0) := by omega
  have wkl : ¬ (((M.cd d).length : Int) <= (k : Int)) := by omega
  have wkl2 : (k : Int) < ((M.cd d).length : Int) := by omega
  rw [hx] at k0 k1
  simp only at k0 k1
  have G0 := grown_refl w (some r)
  have hs := h.setI (isI_fr (i := 1) hd8 (by omega) (by omega)) ((k : Int) + 1) (fun d' hd' he => by unfold fr at he; omega)
  have gs := grown_set w r (fr d + 1) (.int .i64 ((k : Int) + 1))
  have hrw := h.lt
  have bS := (Below.refl (w.setCell ⟨r, fr d + 1, none⟩ (.int .i64 ((k : Int) + 1))).heap.size (w.setCell ⟨r, fr d + 1, none⟩ (.int .i64 ((k : Int) + 1)))).alloc (Nat.le_refl _) (.cells #[.int .i64 op, .int .i64 arg] 56)
  rw [f99] at cn zn cc
  have HWK : Hid (wrap64 ((k : Int) + 1) = (k : Int) + 1) := by show _ = _; unfold wrap64; omega
  have wd : wrap64 ((d : Int) + 1 - 1) = d := by unfold wrap64; omega
  have HS := hid hs
  have HGS := hid gs
  have HBS := hid bS
  have HH := hid h
  have HM := hid hm
  have HXV := hid hxv
  have HPAR := hid hpar
  have HML := hid hML
  have HDEP := hid hdep
  have HHH := hid (fun d' (hd' : d' < 8) => h.hh d' hd')
  clear hs gs bS h hm hxv hpar hML hdep e5 en hk hx hcv h1 h2 f99
  generalize (M.cd d).length = NL at *
  have HOP := hid hop
  clear hop
  go_enter Tryz.func106, Tryz.ntmps106
  go_wp2_with fail
  go_quiet (fail)
  have cn1 : (w.drewN nq).cell? ⟨r, 99 + d * 27 + 1, none⟩ = some (.int .i64 (k : Int)) := cn
  have zn1 : (w.drewN nq).frozen? ⟨r, 99 + d * 27 + 1, none⟩ = false := zn
  have cc1 : (w.drewN nq).cell? ⟨r, 99 + d * 27, none⟩ = some (.slice (some ⟨bc, oc, none⟩) NL cap) := cc
  have i1 : (w.drewN nq).cell? ⟨bc, oc + k * 2, none⟩ = some (.int .i64 op) := k0
  have j1 : (w.drewN nq).cell? ⟨bc, oc + k * 2 + 1, none⟩ = some (.int .i64 arg) := k1
  have a1 : (w.drewN nq).heap = w.heap /\ (w.drewN nq).os = w.os /\ (w.drewN nq).tape = w.tape /\ (w.drewN nq).output = w.output := ⟨rfl, rfl, rfl, rfl⟩
  clear cn zn cc k0 k1 c5
  generalize w.drewN nq = w1 at *
  go_wp2_with fail
  go_quiet (fail)
  have cn2 : (w1.drewN nq).cell? ⟨r, 99 + d * 27 + 1, none⟩ = some (.int .i64 (k : Int)) := cn1
  have zn2 : (w1.drewN nq).frozen? ⟨r, 99 + d * 27 + 1, none⟩ = false := zn1
  have cc2 : (w1.drewN nq).cell? ⟨r, 99 + d * 27, none⟩ = some (.slice (some ⟨bc, oc, none⟩) NL cap) := cc1
  have i2 : (w1.drewN nq).cell? ⟨bc, oc + k * 2, none⟩ = some (.int .i64 op) := i1
  have j2 : (w1.drewN nq).cell? ⟨bc, oc + k * 2 + 1, none⟩ = some (.int .i64 arg) := j1
  have a2 : (w1.drewN nq).heap = w.heap /\ (w1.drewN nq).os = w.os /\ (w1.drewN nq).tape = w.tape /\ (w1.drewN nq).output = w.output := a1
  clear cn1 zn1 cc1 i1 j1 a1
  generalize w1.drewN nq = w2 at *
  have wk := HWK.out
  clear wd
  go_wp2_with fail
  go_region
  have hop := HOP.out
  obtain ⟨n0, n14, n2, n3, n4, n5, n15, n16, n17, n18⟩ := hop
  have b0 : (op == 0) = false := by simpa using n0
  have b14 : (op == 14) = false := by simpa using n14
  have b2 : (op == 2) = false := by simpa using n2
  have b3 : (op == 3) = false := by simpa using n3
  have b4 : (op == 4) = false := by simpa using n4
  have b5 : (op == 5) = false := by simpa using n5
  have b15 : (op == 15) = false := by simpa using n15
  have b16 : (op == 16) = false := by simpa using n16
  have b17 : (op == 17) = false := by simpa using n17
  have b18 : (op == 18) = false := by simpa using n18
  have eH : (w2.setCell ⟨r, 99 + d * 27 + 1, none⟩ (.int .i64 ((k : Int) + 1))).heap = (w.setCell ⟨r, fr d + 1, none⟩ (.int .i64 ((k : Int) + 1))).heap := by
    simp only [World.setCell, a2.1]; rfl
  have hA := HS.out.alike eH
  have bA := (Below.refl (w2.setCell ⟨r, 99 + d * 27 + 1, none⟩ (.int .i64 ((k : Int) + 1))).heap.size (w2.setCell ⟨r, 99 + d * 27 + 1, none⟩ (.int .i64 ((k : Int) + 1)))).alloc (Nat.le_refl _) (.cells #[.int .i64 op, .int .i64 arg] 56)
  have hX : MR (((w2.setCell ⟨r, 99 + d * 27 + 1, none⟩ (.int .i64 ((k : Int) + 1))).alloc (.cells #[.int .i64 op, .int .i64 arg] 56)).drew) r mk mv (M.setI (fr d + 1) ((k : Int) + 1)) := (hA.kept (grown_below bA none) (by simp)).alike rfl
  have gA : w.grownBy (w2.setCell ⟨r, 99 + d * 27 + 1, none⟩ (.int .i64 ((k : Int) + 1))) (some r) := ⟨a2.2.1, a2.2.2.1, a2.2.2.2, by rw [eH]; exact HGS.out.size, fun q hq hr => by rw [eH]; exact HGS.out.block q hq hr⟩
  have gX : w.grownBy (((w2.setCell ⟨r, 99 + d * 27 + 1, none⟩ (.int .i64 ((k : Int) + 1))).alloc (.cells #[.int .i64 op, .int .i64 arg] 56)).drew) (some r) := grown_alike (grown_trans gA (grown_below bA (some r))) ⟨rfl, rfl, rfl, rfl⟩
  have e1 : Mc.act m xv (M.setI (fr d + 1) ((k : Int) + 1)) d (op, arg) = (M.setI (fr d + 1) ((k : Int) + 1)).do_ d op arg := by
    unfold Mc.act; simp only; rw [if_neg n0, if_neg n14, if_neg (by omega), if_neg n15, if_neg n16, if_neg n17, if_neg n18]
  have C := hid (mdo_any r d op arg mk mv _ _ hX hd8)
  have HE1 := hid (HML.out.trans e1)
  rw [<- HE1.out] at C
  clear n0 n14 n2 n3 n4 n5 n15 n16 n17 n18
  clear hA bA gA eH e1 hX HS HGS HBS HML HWK
  go_wp2_with fail
  refine C.out.mono ?_
  rintro e w3 ⟨rfl, h3, g3⟩
  have FIN : Hid (MDone w w3 r mk mv ML (.returned (.tuple #[]))) := ⟨rfl, h3, grown_trans gX g3⟩
  clear C h3 g3 gX
  go_wp2
  go_end0
  exact FIN.out
set_option maxRecDepth 100000 in
set_option maxHeartbeats 2000000 in
theorem mstep18 (r d k : Nat) (m : Pu.Md) (op arg : Int) (hop : op = 18) (mk mv : Value) (M : Mc) (w : World) (h : MR w r mk mv M) (hm : MdR w r mk mv m) (hpar : ∀ f ∈ m.funcs, f.params.length <= 4) (xv : Nat -> Value) (hxv : XvR w m mv xv) (hcd : CodeR w r (M.cv d) (M.cd d)) (hcl : (M.cd d).length <= maxLen)
    (hd8 : d < 8) (hdep : M.depth = (d : Int) + 1) (hk : M.next d = k) (hkl : k < (M.cd d).length) (hx : (M.cd d).getD k (0, 0) = (op, arg)) :
    Calls Tryz.prog 106 #[.pointer (some ⟨r, 0, none⟩)] w fun e w' => MDone w w' r mk mv (Mc.act m xv (M.setI (fr d + 1) ((k : Int) + 1)) d (op, arg)) e := by
  obtain ⟨ML, hML⟩ : ∃ ML, ML = Mc.act m xv (M.setI (fr d + 1) ((k : Int) + 1)) d (op, arg) := ⟨_, rfl⟩
  rw [<- hML]
  have c5 := h.ci (i := 315) (by unfold isI; omega)
  have e5 : M.ints 315 = (d : Int) + 1 := hdep
  rw [e5] at c5
  have cn := h.ci (isI_fr (i := 1) hd8 (by omega) (by omega))
  have en : M.ints (fr d + 1) = (k : Int) := hk
  rw [en] at cn
  have zn := h.fz (fr d + 1)
  have cc := h.cc hd8
  obtain ⟨ao, cap, bc, oc, hcv, h1, h2⟩ := hcd
  rw [hcv] at cc
  have wd8 : (d : Int) < 8 := by omega
  have wd1 : ¬ ((d : Int) + 1 < 1) := by omega
  have wd9 : ¬ (8 < (d : Int) + 1) := by omega
  have f99 : fr d = 99 + d * 27 := rfl
  unfold maxLen at hcl
  obtain ⟨rfl, hbr⟩ := h1 (by omega)
  obtain ⟨k0, k1⟩ := h2 k hkl
  have hbw : bc < w.heap.size := Nat.lt_trans hbr h.lt
  have wk0 : ¬ ((k : Int) < 0) := by omega
  have wkl : ¬ (((M.cd d).length : Int) <= (k : Int)) := by omega
  have wkl2 : (k : Int) < ((M.cd d).length : Int) := by omega
  rw [hx] at k0 k1
  simp only at k0 k1
  have G0 := grown_refl w (some r)
  have hs := h.setI (isI_fr (i := 1) hd8 (by omega) (by omega)) ((k : Int) + 1) (fun d' hd' he => by unfold fr at he; omega)
  have gs := grown_set w r (fr d + 1) (.int .i64 ((k : Int) + 1))
  have hrw := h.lt
  have bS := (Below.refl (w.setCell ⟨r, fr d + 1, none⟩ (.int .i64 ((k : Int) + 1))).heap.size (w.setCell ⟨r, fr d + 1, none⟩ (.int .i64 ((k : Int) + 1)))).alloc (Nat.le_refl _) (.cells #[.int .i64 op, .int .i64 arg] 56)
  rw [f99] at cn zn cc
  have HWK : Hid (wrap64 ((k : Int) + 1) = (k : Int) + 1) := by show _ = _; unfold wrap64; omega
  have wd : wrap64 ((d : Int) + 1 - 1) = d := by unfold wrap64; omega
  have HS := hid hs
  have HGS := hid gs
  have HBS := hid bS
  have HH := hid h
  have HM := hid hm
  have HXV := hid hxv
  have HPAR := hid hpar
  have HML := hid hML
  have HDEP := hid hdep
  have HHH := hid (fun d' (hd' : d' < 8) => h.hh d' hd')
  clear hs gs bS h hm hxv hpar hML hdep e5 en hk hx hcv h1 h2 f99
  generalize (M.cd d).length = NL at *
  have HOP := hid hop
  clear hop
  go_enter Tryz.func106, Tryz.ntmps106
  go_wp2_with fail
  go_quiet (fail)
  have cn1 : (w.drewN nq).cell? ⟨r, 99 + d * 27 + 1, none⟩ = some (.int .i64 (k : Int)) := cn
  have zn1 : (w.drewN nq).frozen? ⟨r, 99 + d * 27 + 1, none⟩ = false := zn
  have cc1 : (w.drewN nq).cell? ⟨r, 99 + d * 27, none⟩ = some (.slice (some ⟨bc, oc, none⟩) NL cap) := cc
  have i1 : (w.drewN nq).cell? ⟨bc, oc + k * 2, none⟩ = some (.int .i64 op) := k0
  have j1 : (w.drewN nq).cell? ⟨bc, oc + k * 2 + 1, none⟩ = some (.int .i64 arg) := k1
  have a1 : (w.drewN nq).heap = w.heap /\ (w.drewN nq).os = w.os /\ (w.drewN nq).tape = w.tape /\ (w.drewN nq).output = w.output := ⟨rfl, rfl, rfl, rfl⟩
  clear cn zn cc k0 k1 c5
  generalize w.drewN nq = w1 at *
  go_wp2_with fail
  go_quiet (fail)
  have cn2 : (w1.drewN nq).cell? ⟨r, 99 + d * 27 + 1, none⟩ = some (.int .i64 (k : Int)) := cn1
  have zn2 : (w1.drewN nq).frozen? ⟨r, 99 + d * 27 + 1, none⟩ = false := zn1
  have cc2 : (w1.drewN nq).cell? ⟨r, 99 + d * 27, none⟩ = some (.slice (some ⟨bc, oc, none⟩) NL cap) := cc1
  have i2 : (w1.drewN nq).cell? ⟨bc, oc + k * 2, none⟩ = some (.int .i64 op) := i1
  have j2 : (w1.drewN nq).cell? ⟨bc, oc + k * 2 + 1, none⟩ = some (.int .i64 arg) := j1
  have a2 : (w1.drewN nq).heap = w.heap /\ (w1.drewN nq).os = w.os /\ (w1.drewN nq).tape = w.tape /\ (w1.drewN nq).output = w.output := a1
  clear cn1 zn1 cc1 i1 j1 a1
  generalize w1.drewN nq = w2 at *
  have wk := HWK.out
  clear wd
  go_wp2_with fail
  go_region
  have hop := HOP.out
  subst hop
  have eH : (w2.setCell ⟨r, 99 + d * 27 + 1, none⟩ (.int .i64 ((k : Int) + 1))).heap = (w.setCell ⟨r, fr d + 1, none⟩ (.int .i64 ((k : Int) + 1))).heap := by
    simp only [World.setCell, a2.1]; rfl
  have hA := HS.out.alike eH
  have bA := (Below.refl (w2.setCell ⟨r, 99 + d * 27 + 1, none⟩ (.int .i64 ((k : Int) + 1))).heap.size (w2.setCell ⟨r, 99 + d * 27 + 1, none⟩ (.int .i64 ((k : Int) + 1)))).alloc (Nat.le_refl _) (.cells #[.int .i64 18, .int .i64 arg] 56)
  have hX : MR (((w2.setCell ⟨r, 99 + d * 27 + 1, none⟩ (.int .i64 ((k : Int) + 1))).alloc (.cells #[.int .i64 18, .int .i64 arg] 56)).drew) r mk mv (M.setI (fr d + 1) ((k : Int) + 1)) := (hA.kept (grown_below bA none) (by simp)).alike rfl
  have gA : w.grownBy (w2.setCell ⟨r, 99 + d * 27 + 1, none⟩ (.int .i64 ((k : Int) + 1))) (some r) := ⟨a2.2.1, a2.2.2.1, a2.2.2.2, by rw [eH]; exact HGS.out.size, fun q hq hr => by rw [eH]; exact HGS.out.block q hq hr⟩
  have gX : w.grownBy (((w2.setCell ⟨r, 99 + d * 27 + 1, none⟩ (.int .i64 ((k : Int) + 1))).alloc (.cells #[.int .i64 18, .int .i64 arg] 56)).drew) (some r) := grown_alike (grown_trans gA (grown_below bA (some r))) ⟨rfl, rfl, rfl, rfl⟩
  have e1 : Mc.act m xv (M.setI (fr d + 1) ((k : Int) + 1)) d (18, arg) = ((M.setI (fr d + 1) ((k : Int) + 1)).setI 319 arg).giveUp 10 := by unfold Mc.act; simp
  have cY := hX.ci (i := 319) (by unfold isI; omega)
  have zY := hX.fz 319
  have hA2 := hA.setI (i := 319) (by unfold isI; omega) arg (fun d' hd' he => by unfold fr at he; omega)
  have bZ := (Below.refl ((w2.setCell ⟨r, 99 + d * 27 + 1, none⟩ (.int .i64 ((k : Int) + 1))).setCell ⟨r, 319, none⟩ (.int .i64 arg)).heap.size ((w2.setCell ⟨r, 99 + d * 27 + 1, none⟩ (.int .i64 ((k : Int) + 1))).setCell ⟨r, 319, none⟩ (.int .i64 arg))).alloc (Nat.le_refl _) (.cells #[.int .i64 18, .int .i64 arg] 56)
  have hZ : MR (((w2.setCell ⟨r, 99 + d * 27 + 1, none⟩ (.int .i64 ((k : Int) + 1))).setCell ⟨r, 319, none⟩ (.int .i64 arg)).alloc (.cells #[.int .i64 18, .int .i64 arg] 56)).drew r mk mv ((M.setI (fr d + 1) ((k : Int) + 1)).setI 319 arg) := (hA2.kept (grown_below bZ none) (by simp)).alike rfl
  have gZ : w.grownBy (((w2.setCell ⟨r, 99 + d * 27 + 1, none⟩ (.int .i64 ((k : Int) + 1))).setCell ⟨r, 319, none⟩ (.int .i64 arg)).alloc (.cells #[.int .i64 18, .int .i64 arg] 56)).drew (some r) := grown_alike (grown_trans (grown_trans gA (grown_set _ r 319 (.int .i64 arg))) (grown_below bZ (some r))) ⟨rfl, rfl, rfl, rfl⟩
  have C := hid (mgiveUp_any r 10 mk mv _ _ hZ)
  have HE1 := hid (HML.out.trans e1)
  rw [<- HE1.out] at C
  clear hA bA gA eH e1 hX HS HGS HBS HML HWK hA2 bZ hZ gX
  go_wp2_with fail
  refine C.out.mono ?_
  rintro e w3 ⟨rfl, h3, g3⟩
  have FIN : Hid (MDone w w3 r mk mv ML (.returned (.tuple #[]))) := ⟨rfl, h3, grown_trans gZ g3⟩
  clear C h3 g3 gZ
  go_wp2
  go_end0
  exact FIN.out
end Go.Proofs.YtjamgmbdilkbcaaGreat

/- The machine's step. -/
namespace Go.Proofs.YtjamgmbdilkbcaaGreat
open Go.RowKit Mc

set_option maxRecDepth 100000 in
set_option maxHeartbeats 2000000 in
theorem mstep_any (r : Nat) (m : Pu.Md) (mk mv : Value) (M : Mc) (w : World) (h : MR w r mk mv M) (hm : MdR w r mk mv m) (hpar : ∀ f ∈ m.funcs, f.params.length <= 4) (xv : Nat -> Value) (hxv : XvR w m mv xv) (hcd : CdR w r M) :
    Calls Tryz.prog 106 #[.pointer (some ⟨r, 0, none⟩)] w fun e w' => MDone w w' r mk mv (M.step m xv) e := by
  have c5 := h.ci (i := 315) (by unfold isI; omega)
  have e5 : M.ints 315 = M.depth := rfl
  rw [e5] at c5
  obtain ⟨ML, hML⟩ : ∃ ML, ML = M.step m xv := ⟨_, rfl⟩
  rw [<- hML]
  unfold Mc.step at hML
  by_cases hdp : M.depth < 1 \/ 8 < M.depth
  · rw [if_pos hdp] at hML
    have C := hid (mgiveUp_any r 3 mk mv M w h)
    rw [<- hML] at C
    have hcs : M.depth < 1 \/ (¬ M.depth < 1 /\ 8 < M.depth) := by omega
    clear h hm hpar hxv hcd hML hdp e5
    generalize M.depth = D at *
    rcases hcs with hcs | ⟨hcs, hcs2⟩ <;>
    · go_enter Tryz.func106, Tryz.ntmps106
      go_wp2_with fail
      refine C.out.mono ?_
      rintro e w1 ⟨rfl, h1, g1⟩
      have FIN : Hid (MDone w w1 r mk mv ML (.returned (.tuple #[]))) := ⟨rfl, h1, g1⟩
      clear C h1 g1
      go_wp2
      refine bodyPost_ret (results_none rfl _ _ _) rfl ?_
      exact FIN.out
  · rw [if_neg hdp] at hML
    obtain ⟨d, hd⟩ : ∃ d : Nat, M.depth = (d : Int) + 1 := ⟨(M.depth - 1).toNat, by omega⟩
    have hd8 : d < 8 := by omega
    rw [hd, show ((d : Int) + 1 - 1).toNat = d from by omega] at hML
    have HDEP := hid hd
    rw [hd] at c5
    have cn := h.ci (isI_fr (i := 1) hd8 (by omega) (by omega))
    have en : M.ints (fr d + 1) = M.next d := rfl
    rw [en] at cn
    have zn := h.fz (fr d + 1)
    have cc := h.cc hd8
    obtain ⟨hcr, hcl⟩ := hcd d hd8
    obtain ⟨ao, cap, bc, oc, hcv, h1, h2⟩ := hcr
    rw [hcv] at cc
    have wd : wrap64 ((d : Int) + 1 - 1) = d := by unfold wrap64; omega
    have wd8 : (d : Int) < 8 := by omega
    have wd1 : ¬ ((d : Int) + 1 < 1) := by omega
    have wd9 : ¬ (8 < (d : Int) + 1) := by omega
    have f99 : fr d = 99 + d * 27 := rfl
    rw [f99] at cn zn cc
    unfold maxLen at hcl
    by_cases hnx : M.next d < 0 \/ ((M.cd d).length : Int) <= M.next d
    · rw [if_pos hnx] at hML
      have hcs : M.next d < 0 \/ (¬ M.next d < 0 /\ ((M.cd d).length : Int) <= M.next d) := by omega
      have G0 := grown_refl w (some r)
      clear hm hpar hxv hcd hnx e5 hdp hd en h1 h2 hcv f99
      rcases hcs with hcs | ⟨hcs, hcs2⟩ <;>
      · go_enter Tryz.func106, Tryz.ntmps106
        go_wp2_with fail
        go_quiet (fail)
        have g1 := grown_alike (w' := w.drewN nq) G0 ⟨rfl, rfl, rfl, rfl⟩
        have x1 := h.alike (w' := w.drewN nq) rfl
        have cn1 : (w.drewN nq).cell? ⟨r, 99 + d * 27 + 1, none⟩ = some (.int .i64 (M.next d)) := cn
        have zn1 : (w.drewN nq).frozen? ⟨r, 99 + d * 27 + 1, none⟩ = false := zn
        have cc1 : (w.drewN nq).cell? ⟨r, 99 + d * 27, none⟩ = some (.slice ao (M.cd d).length cap) := cc
        generalize w.drewN nq = w1 at *
        clear c5 cn zn cc G0
        go_wp2_with fail
        go_quiet (fail)
        have g2 := grown_alike (w' := w1.drewN nq) g1 ⟨rfl, rfl, rfl, rfl⟩
        have x2 := x1.alike (w' := w1.drewN nq) rfl
        have cn2 : (w1.drewN nq).cell? ⟨r, 99 + d * 27 + 1, none⟩ = some (.int .i64 (M.next d)) := cn1
        have zn2 : (w1.drewN nq).frozen? ⟨r, 99 + d * 27 + 1, none⟩ = false := zn1
        have cc2 : (w1.drewN nq).cell? ⟨r, 99 + d * 27, none⟩ = some (.slice ao (M.cd d).length cap) := cc1
        generalize w1.drewN nq = w2 at *
        clear cn1 zn1 cc1 g1 x1
        have C2 := hid (mgiveUp_any r 3 mk mv M w2 x2)
        rw [<- hML] at C2
        go_wp2_with fail
        refine C2.out.mono ?_
        rintro e w3 ⟨rfl, h3, g3⟩
        have FIN : Hid (MDone w w3 r mk mv ML (.returned (.tuple #[]))) := ⟨rfl, h3, grown_trans g2 g3⟩
        clear C2 h3 g3 g2 x2
        go_wp2
        refine bodyPost_ret (results_none rfl _ _ _) rfl ?_
        exact FIN.out
    · rw [if_neg hnx] at hML
      obtain ⟨k, hk⟩ : ∃ k : Nat, M.next d = k := ⟨(M.next d).toNat, by omega⟩
      have hkl : k < (M.cd d).length := by omega
      rw [hk, show ((k : Int)).toNat = k from by omega] at hML
      rw [hML]
      have hcr2 := (hcd d hd8).1
      have hcl2 := (hcd d hd8).2
      have hx : (M.cd d).getD k (0, 0) = (((M.cd d).getD k (0, 0)).1, ((M.cd d).getD k (0, 0)).2) := rfl
      clear hML wd
      rw [hx]
      generalize ((M.cd d).getD k (0, 0)).1 = op at *
      generalize ((M.cd d).getD k (0, 0)).2 = arg at *
      by_cases n0 : op = 0
      · exact mstep0 r d k m op arg n0 mk mv M w h hm hpar xv hxv hcr2 hcl2 hd8 HDEP.out hk hkl hx
      by_cases n14 : op = 14
      · exact mstep14 r d k m op arg n14 mk mv M w h hm hpar xv hxv hcr2 hcl2 hd8 HDEP.out hk hkl hx
      by_cases n2 : op = 2
      · exact mstep2 r d k m op arg n2 mk mv M w h hm hpar xv hxv hcr2 hcl2 hd8 HDEP.out hk hkl hx
      by_cases n3 : op = 3
      · exact mstep3 r d k m op arg n3 mk mv M w h hm hpar xv hxv hcr2 hcl2 hd8 HDEP.out hk hkl hx
      by_cases n4 : op = 4
      · exact mstep4 r d k m op arg n4 mk mv M w h hm hpar xv hxv hcr2 hcl2 hd8 HDEP.out hk hkl hx
      by_cases n5 : op = 5
      · exact mstep5 r d k m op arg n5 mk mv M w h hm hpar xv hxv hcr2 hcl2 hd8 HDEP.out hk hkl hx
      by_cases n15 : op = 15
      · exact mstep15 r d k m op arg n15 mk mv M w h hm hpar xv hxv hcr2 hcl2 hd8 HDEP.out hk hkl hx
      by_cases n16 : op = 16
      · exact mstep16 r d k m op arg n16 mk mv M w h hm hpar xv hxv hcr2 hcl2 hd8 HDEP.out hk hkl hx
      by_cases n17 : op = 17
      · exact mstep17 r d k m op arg n17 mk mv M w h hm hpar xv hxv hcr2 hcl2 hd8 HDEP.out hk hkl hx
      by_cases n18 : op = 18
      · exact mstep18 r d k m op arg n18 mk mv M w h hm hpar xv hxv hcr2 hcl2 hd8 HDEP.out hk hkl hx
      exact mstepN r d k m op arg ⟨n0, n14, n2, n3, n4, n5, n15, n16, n17, n18⟩ mk mv M w h hm hpar xv hxv hcr2 hcl2 hd8 HDEP.out hk hkl hx
structure Same (M N : Mc) : Prop where
  cv : N.cv = M.cv
  cd : N.cd = M.cd
theorem Same.refl (M : Mc) : Same M M := ⟨rfl, rfl⟩
theorem Same.trans {A B C : Mc} (h : Same A B) (k : Same B C) : Same A C := ⟨k.cv.trans h.cv, k.cd.trans h.cd⟩
theorem same_setI (M : Mc) (i : Nat) (n : Int) : Same M (M.setI i n) := ⟨rfl, rfl⟩
theorem same_setB (M : Mc) (i : Nat) (b : Bool) : Same M (M.setB i b) := ⟨rfl, rfl⟩
theorem same_giveUp (M : Mc) (e : Int) : Same M (M.giveUp e) := ⟨rfl, rfl⟩
theorem same_setA (M : Mc) (a b : Int) (c : Bool) (n : Int) : Same M (M.setA a b c n) := ⟨rfl, rfl⟩
theorem same_put (M : Mc) (d : Nat) (n : Int) : Same M (M.put d n) := by unfold Mc.put; split <;> exact ⟨rfl, rfl⟩
theorem same_pop (M : Mc) (d : Nat) : Same M (M.pop d) := by unfold Mc.pop; split <;> exact ⟨rfl, rfl⟩
theorem same_keep (M : Mc) (d : Nat) (p n : Int) : Same M (M.keep d p n) := by unfold Mc.keep; split <;> exact ⟨rfl, rfl⟩
theorem same_endN (M : Mc) (d : Nat) : ∀ k, Same M (Mc.endN M d k)
  | 0 => Same.refl M
  | k + 1 => (same_endN M d k).trans (same_put _ _ _)
theorem same_begN (d : Nat) : ∀ (k : Nat) (M : Mc), Same M (Mc.begN d k M)
  | 0, M => Same.refl M
  | k + 1, M => ((same_pop M d).trans (same_keep _ _ _ _)).trans (same_begN d k _)
theorem same_do (M : Mc) (d : Nat) (op arg : Int) : Same M (M.do_ d op arg) := by
  unfold Mc.do_
  split
  · exact same_put _ _ _
  split
  · exact same_setI _ _ _
  split
  · split
    · exact (same_pop _ _).trans (same_setI _ _ _)
    · exact same_pop _ _
  split
  · exact same_put _ _ _
  split
  · exact (same_pop _ _).trans (same_keep _ _ _ _)
  split
  · exact same_pop _ _
  · exact Same.refl _
theorem same_reckon (M : Mc) (d : Nat) (op : Int) : Same M (M.reckon d op) := by
  unfold Mc.reckon
  simp only
  split
  · exact ((same_pop _ _).trans (same_pop _ _)).trans (same_giveUp _ _)
  · exact ((same_pop _ _).trans (same_pop _ _)).trans (same_put _ _ _)
theorem same_fetch (M : Mc) (d : Nat) (kd : Int) : Same M (M.fetch d kd) := by
  unfold Mc.fetch
  simp only
  split
  · exact same_giveUp _ _
  · exact (same_setA _ _ _ _ _).trans (same_put _ _ _)
theorem same_store (M : Mc) (d : Nat) (kd : Int) : Same M (M.store d kd) := by
  unfold Mc.store
  simp only
  split
  · exact ((same_pop _ _).trans (same_pop _ _)).trans (same_giveUp _ _)
  · split
    · exact ((same_pop _ _).trans (same_pop _ _)).trans (same_giveUp _ _)
    · exact ((same_pop _ _).trans (same_pop _ _)).trans (same_setA _ _ _ _ _)
theorem same_has (M : Mc) (d : Nat) (kd : Int) : Same M (M.has d kd) := by
  unfold Mc.has
  simp only
  split
  · exact (same_pop _ _).trans (same_giveUp _ _)
  · exact (same_pop _ _).trans (same_put _ _ _)
theorem same_end (M : Mc) (d : Nat) : Same M (M.end_ d) := by
  unfold Mc.end_
  split
  · exact (same_setI _ _ _).trans (same_setB _ _ _)
  · exact (same_setI _ _ _).trans (same_endN _ _ _)
def CdStep (m : Pu.Md) (xv : Nat -> Value) (M N : Mc) : Prop := ∀ e, (N.cv e = M.cv e /\ N.cd e = M.cd e) \/ ∃ j, j < m.funcs.length /\ N.cv e = xv j /\ N.cd e = (m.funcs.getD j ⟨[], [], [], []⟩).code
theorem Same.step {m : Pu.Md} {xv : Nat -> Value} {M N : Mc} (h : Same M N) : CdStep m xv M N := fun e => .inl ⟨by rw [h.cv], by rw [h.cd]⟩
theorem begin_step (m : Pu.Md) (xv : Nat -> Value) (M : Mc) (d : Nat) (c : Int) : CdStep m xv M (Mc.begin m (xv c.toNat) M d c) := by
  unfold Mc.begin
  split
  · exact (same_giveUp _ _).step
  split
  · exact (same_giveUp _ _).step
  · rename_i h1 h2
    intro e
    have hs := (same_begN d (m.funcs.getD c.toNat ⟨[], [], [], []⟩).params.length (M.fresh (d + 1) (xv c.toNat) (m.funcs.getD c.toNat ⟨[], [], [], []⟩).code)).trans (same_setI _ 315 ((d : Int) + 2))
    rw [hs.cv, hs.cd]
    unfold Mc.fresh
    obtain ⟨_, z1, z2⟩ := zeros_rest (M.setC (d + 1) (xv c.toNat) (m.funcs.getD c.toNat ⟨[], [], [], []⟩).code) 26 (fr (d + 1) + 1)
    rw [z1, z2]
    unfold Mc.setC
    simp only
    by_cases he : e = d + 1
    · right
      exact ⟨c.toNat, by omega, by rw [if_pos he], by rw [if_pos he]⟩
    · left
      exact ⟨by rw [if_neg he], by rw [if_neg he]⟩
theorem step_cd (m : Pu.Md) (xv : Nat -> Value) (M : Mc) : CdStep m xv M (M.step m xv) := by
  unfold Mc.step
  split
  · exact (same_giveUp _ _).step
  split
  · exact (same_giveUp _ _).step
  · generalize (M.depth - 1).toNat = d
    generalize (M.cd d).getD (M.next d).toNat (0, 0) = x
    have h0 := same_setI M (fr d + 1) (M.next d + 1)
    unfold Mc.act
    split
    · exact (h0.trans (same_end _ _)).step
    split
    · intro e
      rcases begin_step m xv (M.setI (fr d + 1) (M.next d + 1)) d x.2 e with h | h
      · exact .inl h
      · exact .inr h
    split
    · exact (h0.trans (same_reckon _ _ _)).step
    split
    · exact (h0.trans (same_fetch _ _ _)).step
    split
    · exact (h0.trans (same_store _ _ _)).step
    split
    · exact (h0.trans (same_has _ _ _)).step
    split
    · exact ((h0.trans (same_setI _ _ _)).trans (same_giveUp _ _)).step
    · exact (h0.trans (same_do _ _ _ _)).step
theorem CdR.step {w w' : World} {r : Nat} {m : Pu.Md} {xv : Nat -> Value} {M N : Mc} (h : CdR w r M) (hs : CdStep m xv M N) (hx : ∀ j, j < m.funcs.length -> CodeR w r (xv j) (m.funcs.getD j ⟨[], [], [], []⟩).code /\ (m.funcs.getD j ⟨[], [], [], []⟩).code.length <= maxLen) (hb : Below r w w') : CdR w' r N := by
  intro e he
  rcases hs e with ⟨h1, h2⟩ | ⟨j, hj, h1, h2⟩
  · rw [h1, h2]; exact ⟨(h e he).1.below hb, (h e he).2⟩
  · rw [h1, h2]; exact ⟨(hx j hj).1.below hb, (hx j hj).2⟩
end Go.Proofs.YtjamgmbdilkbcaaGreat
