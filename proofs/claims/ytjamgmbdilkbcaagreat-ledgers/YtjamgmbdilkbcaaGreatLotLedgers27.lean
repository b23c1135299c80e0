import Derived.Test.YtjamgmbdilkbcaaGreatLotLedgers26
/- The machine's step, goOn. -/
namespace Go.Proofs.YtjamgmbdilkbcaaGreat
open Go.RowKit Mc

namespace Mc
def act (m : Pu.Md) (xv : Nat -> Value) (M : Mc) (d : Nat) (x : Int × Int) : Mc :=
  if x.1 = 0 then M.end_ d
  else if x.1 = 14 then Mc.begin m (xv x.2.toNat) M d x.2
  else if x.1 = 2 \/ x.1 = 3 \/ x.1 = 4 \/ x.1 = 5 then M.reckon d x.1
  else if x.1 = 15 then M.fetch d x.2
  else if x.1 = 16 then M.store d x.2
  else if x.1 = 17 then M.has d x.2
  else if x.1 = 18 then (M.setI 319 x.2).giveUp 10
  else M.do_ d x.1 x.2
def step (m : Pu.Md) (xv : Nat -> Value) (M : Mc) : Mc :=
  if M.depth < 1 \/ 8 < M.depth then M.giveUp 3
  else if M.next (M.depth - 1).toNat < 0 \/ ((M.cd (M.depth - 1).toNat).length : Int) <= M.next (M.depth - 1).toNat then M.giveUp 3
  else act m xv (M.setI (fr (M.depth - 1).toNat + 1) (M.next (M.depth - 1).toNat + 1)) (M.depth - 1).toNat ((M.cd (M.depth - 1).toNat).getD (M.next (M.depth - 1).toNat).toNat (0, 0))
end Mc

theorem XvR.below {w w' : World} {r : Nat} {mk mv : Value} {m : Pu.Md} {xv : Nat -> Value} (h : XvR w m mv xv) (hm : MdR w r mk mv m) (hb : Below r w w') : XvR w' m mv xv := by
  intro j hj bf off cap e
  obtain ⟨ao, cap', b, of', hv, h1, _⟩ := hm.v
  rw [e] at hv
  simp only [Value.slice.injEq, true_and] at hv
  have h2 := h1 (by omega)
  rw [h2.1] at hv
  simp only [Option.some.injEq, Addr.mk.injEq, and_true] at hv
  rw [hb.cell (p := ⟨bf, off + j * 4 + 3, none⟩) (by show bf < r; rw [hv.1.1]; exact h2.2)]
  exact h j hj bf off cap e
theorem grown_low {w w' : World} {r : Nat} (hg : w.grownBy w' (some r)) (hr : r <= w.heap.size) : Below r w w' := (Below.refl r w).grown hg hr (fun k hk => by cases hk; exact Nat.le_refl _)
theorem setI_315 (M : Mc) (d : Nat) (n : Int) : (M.setI (fr d + 1) n).depth = M.depth := by
  unfold Mc.depth Mc.setI fr; simp only; rw [if_neg (by omega)]
set_option maxRecDepth 100000 in
set_option maxHeartbeats 2000000 in
theorem mstep0 (r d k : Nat) (m : Pu.Md) (op arg : Int) (hop : op = 0) (mk mv : Value) (M : Mc) (w : World) (h : MR w r mk mv M) (hm : MdR w r mk mv m) (hpar : ∀ f ∈ m.funcs, f.params.length <= 4) (xv : Nat -> Value) (hxv : XvR w m mv xv) (hcd : CodeR w r (M.cv d) (M.cd d)) (hcl : (M.cd d).length <= maxLen)
    (hd8 : d < 8) (hdep : M.depth = (d : Int) + 1) (hk : M.next d = k) (hkl : k < (M.cd d).length) (hx : (M.cd d).getD k (0, 0) = (op, arg)) :
    Calls Tryz.prog 106 #[.pointer (some ⟨r, 0, none⟩)] w fun e w' => MDone w w' r mk mv (Mc.act m xv (M.setI (fr d + 1) ((k : Int) + 1)) d (op, arg)) e := by
  obtain ⟨ML, hML⟩ : ∃ ML, ML = Mc.act m xv (M.setI (fr d + 1) ((k : Int) + 1)) d (op, arg) := ⟨_, rfl⟩
  rw [<- hML]
  have c5 := h.ci (i := 315) (by unfold isI; omega)
  have e5 : M.ints 315 = (d : Int) + 1 := hdep
  rw [e5] at c5
  have cn := h.ci (isI_fr (i := 1) hd8 (by omega) (by omega))
  have en : M.ints (fr d + 1) = (k : Int) := hk
  rw [en] at cn
  have zn := h.fz (fr d + 1)
  have cc := h.cc hd8
  obtain ⟨ao, cap, bc, oc, hcv, h1, h2⟩ := hcd
  rw [hcv] at cc
  have wd8 : (d : Int) < 8 := by omega
  have wd1 : ¬ ((d : Int) + 1 < 1) := by omega
  have wd9 : ¬ (8 < (d : Int) + 1) := by omega
  have f99 : fr d = 99 + d * 27 := rfl
  unfold maxLen at hcl
  obtain ⟨rfl, hbr⟩ := h1 (by omega)
  obtain ⟨k0, k1⟩ := h2 k hkl
  have hbw : bc < w.heap.size := Nat.lt_trans hbr h.lt
  have wk0 : ¬ ((k : Int) < 0) := by omega
  have wkl : ¬ (((M.cd d).length : Int) <= (k : Int)) := by omega
  have wkl2 : (k : Int) < ((M.cd d).length : Int) := by omega
  rw [hx] at k0 k1
  simp only at k0 k1
  have G0 := grown_refl w (some r)
  have hs := h.setI (isI_fr (i := 1) hd8 (by omega) (by omega)) ((k : Int) + 1) (fun d' hd' he => by unfold fr at he; omega)
  have gs := grown_set w r (fr d + 1) (.int .i64 ((k : Int) + 1))
  have hrw := h.lt
  have bS := (Below.refl (w.setCell ⟨r, fr d + 1, none⟩ (.int .i64 ((k : Int) + 1))).heap.size (w.setCell ⟨r, fr d + 1, none⟩ (.int .i64 ((k : Int) + 1)))).alloc (Nat.le_refl _) (.cells #[.int .i64 op, .int .i64 arg] 56)
  rw [f99] at cn zn cc
  have HWK : Hid (wrap64 ((k : Int) + 1) = (k : Int) + 1) := by show _ = _; unfold wrap64; omega
  have wd : wrap64 ((d : Int) + 1 - 1) = d := by unfold wrap64; omega
  have HS := hid hs
  have HGS := hid gs
  have HBS := hid bS
  have HH := hid h
  have HM := hid hm
  have HXV := hid hxv
  have HPAR := hid hpar
  have HML := hid hML
  have HDEP := hid hdep
  have HHH := hid (fun d' (hd' : d' < 8) => h.hh d' hd')
  clear hs gs bS h hm hxv hpar hML hdep e5 en hk hx hcv h1 h2 f99
  generalize (M.cd d).length = NL at *
  have HOP := hid hop
  clear hop
  go_enter Tryz.func106, Tryz.ntmps106
  go_wp2_with fail
  go_quiet (fail)
  have cn1 : (w.drewN nq).cell? ⟨r, 99 + d * 27 + 1, none⟩ = some (.int .i64 (k : Int)) := cn
  have zn1 : (w.drewN nq).frozen? ⟨r, 99 + d * 27 + 1, none⟩ = false := zn
  have cc1 : (w.drewN nq).cell? ⟨r, 99 + d * 27, none⟩ = some (.slice (some ⟨bc, oc, none⟩) NL cap) := cc
  have i1 : (w.drewN nq).cell? ⟨bc, oc + k * 2, none⟩ = some (.int .i64 op) := k0
  have j1 : (w.drewN nq).cell? ⟨bc, oc + k * 2 + 1, none⟩ = some (.int .i64 arg) := k1
  have a1 : (w.drewN nq).heap = w.heap /\ (w.drewN nq).os = w.os /\ (w.drewN nq).tape = w.tape /\ (w.drewN nq).output = w.output := ⟨rfl, rfl, rfl, rfl⟩
  clear cn zn cc k0 k1 c5
  generalize w.drewN nq = w1 at *
  go_wp2_with fail
  go_quiet (fail)
  have cn2 : (w1.drewN nq).cell? ⟨r, 99 + d * 27 + 1, none⟩ = some (.int .i64 (k : Int)) := cn1
  have zn2 : (w1.drewN nq).frozen? ⟨r, 99 + d * 27 + 1, none⟩ = false := zn1
  have cc2 : (w1.drewN nq).cell? ⟨r, 99 + d * 27, none⟩ = some (.slice (some ⟨bc, oc, none⟩) NL cap) := cc1
  have i2 : (w1.drewN nq).cell? ⟨bc, oc + k * 2, none⟩ = some (.int .i64 op) := i1
  have j2 : (w1.drewN nq).cell? ⟨bc, oc + k * 2 + 1, none⟩ = some (.int .i64 arg) := j1
  have a2 : (w1.drewN nq).heap = w.heap /\ (w1.drewN nq).os = w.os /\ (w1.drewN nq).tape = w.tape /\ (w1.drewN nq).output = w.output := a1
  clear cn1 zn1 cc1 i1 j1 a1
  generalize w1.drewN nq = w2 at *
  have wk := HWK.out
  clear wd
  go_wp2_with fail
  go_region
  have hop := HOP.out
  subst hop
  have eH : (w2.setCell ⟨r, 99 + d * 27 + 1, none⟩ (.int .i64 ((k : Int) + 1))).heap = (w.setCell ⟨r, fr d + 1, none⟩ (.int .i64 ((k : Int) + 1))).heap := by
    simp only [World.setCell, a2.1]; rfl
  have hA := HS.out.alike eH
  have bA := (Below.refl (w2.setCell ⟨r, 99 + d * 27 + 1, none⟩ (.int .i64 ((k : Int) + 1))).heap.size (w2.setCell ⟨r, 99 + d * 27 + 1, none⟩ (.int .i64 ((k : Int) + 1)))).alloc (Nat.le_refl _) (.cells #[.int .i64 0, .int .i64 arg] 56)
  have hX : MR (((w2.setCell ⟨r, 99 + d * 27 + 1, none⟩ (.int .i64 ((k : Int) + 1))).alloc (.cells #[.int .i64 0, .int .i64 arg] 56)).drew) r mk mv (M.setI (fr d + 1) ((k : Int) + 1)) := (hA.kept (grown_below bA none) (by simp)).alike rfl
  have gA : w.grownBy (w2.setCell ⟨r, 99 + d * 27 + 1, none⟩ (.int .i64 ((k : Int) + 1))) (some r) := ⟨a2.2.1, a2.2.2.1, a2.2.2.2, by rw [eH]; exact HGS.out.size, fun q hq hr => by rw [eH]; exact HGS.out.block q hq hr⟩
  have gX : w.grownBy (((w2.setCell ⟨r, 99 + d * 27 + 1, none⟩ (.int .i64 ((k : Int) + 1))).alloc (.cells #[.int .i64 0, .int .i64 arg] 56)).drew) (some r) := grown_alike (grown_trans gA (grown_below bA (some r))) ⟨rfl, rfl, rfl, rfl⟩
  have e1 : Mc.act m xv (M.setI (fr d + 1) ((k : Int) + 1)) d (0, arg) = (M.setI (fr d + 1) ((k : Int) + 1)).end_ d := by unfold Mc.act; simp
  have C := hid (mend_any r d mk mv _ _ hX hd8 (by rw [setI_315]; exact HDEP.out))
  have HE1 := hid (HML.out.trans e1)
  rw [<- HE1.out] at C
  clear hA bA gA eH e1 hX HS HGS HBS HML HWK
  go_wp2_with fail
  refine C.out.mono ?_
  rintro e w3 ⟨rfl, h3, g3⟩
  have FIN : Hid (MDone w w3 r mk mv ML (.returned (.tuple #[]))) := ⟨rfl, h3, grown_trans gX g3⟩
  clear C h3 g3 gX
  go_wp2
  go_end0
  exact FIN.out
set_option maxRecDepth 100000 in
set_option maxHeartbeats 2000000 in
theorem mstep14 (r d k : Nat) (m : Pu.Md) (op arg : Int) (hop : op = 14) (mk mv : Value) (M : Mc) (w : World) (h : MR w r mk mv M) (hm : MdR w r mk mv m) (hpar : ∀ f ∈ m.funcs, f.params.length <= 4) (xv : Nat -> Value) (hxv : XvR w m mv xv) (hcd : CodeR w r (M.cv d) (M.cd d)) (hcl : (M.cd d).length <= maxLen)
    (hd8 : d < 8) (hdep : M.depth = (d : Int) + 1) (hk : M.next d = k) (hkl : k < (M.cd d).length) (hx : (M.cd d).getD k (0, 0) = (op, arg)) :
    Calls Tryz.prog 106 #[.pointer (some ⟨r, 0, none⟩)] w fun e w' => MDone w w' r mk mv (Mc.act m xv (M.setI (fr d + 1) ((k : Int) + 1)) d (op, arg)) e := by
  obtain ⟨ML, hML⟩ : ∃ ML, ML = Mc.act m xv (M.setI (fr d + 1) ((k : Int) + 1)) d (op, arg) := ⟨_, rfl⟩
  rw [<- hML]
  have c5 := h.ci (i := 315) (by unfold isI; omega)
  have e5 : M.ints 315 = (d : Int) + 1 := hdep
  rw [e5] at c5
  have cn := h.ci (isI_fr (i := 1) hd8 (by omega) (by omega))
  have en : M.ints (fr d + 1) = (k : Int) := hk
  rw [en] at cn
  have zn := h.fz (fr d + 1)
  have cc := h.cc hd8
  obtain ⟨ao, cap, bc, oc, hcv, h1, h2⟩ := hcd
  rw [hcv] at cc
  have wd8 : (d : Int) < 8 := by omega
  have wd1 : ¬ ((d : Int) + 1 < 1) := by omega
  have wd9 : ¬ (8 < (d : Int) + 1) := by omega
  have f99 : fr d = 99 + d * 27 := rfl
  unfold maxLen at hcl
  obtain ⟨rfl, hbr⟩ := h1 (by omega)
  obtain ⟨k0, k1⟩ := h2 k hkl
  have hbw : bc < w.heap.size := Nat.lt_trans hbr h.lt
  have wk0 : ¬ ((k : Int) < 0) := by omega
  have wkl : ¬ (((M.cd d).length : Int) <= (k : Int)) := by omega
  have wkl2 : (k : Int) < ((M.cd d).length : Int) := by omega
  rw [hx] at k0 k1
  simp only at k0 k1
  have G0 := grown_refl w (some r)
  have hs := h.setI (isI_fr (i := 1) hd8 (by omega) (by omega)) ((k : Int) + 1) (fun d' hd' he => by unfold fr at he; omega)
  have gs := grown_set w r (fr d + 1) (.int .i64 ((k : Int) + 1))
  have hrw := h.lt
  have bS := (Below.refl (w.setCell ⟨r, fr d + 1, none⟩ (.int .i64 ((k : Int) + 1))).heap.size (w.setCell ⟨r, fr d + 1, none⟩ (.int .i64 ((k : Int) + 1)))).alloc (Nat.le_refl _) (.cells #[.int .i64 op, .int .i64 arg] 56)
  rw [f99] at cn zn cc
  have HWK : Hid (wrap64 ((k : Int) + 1) = (k : Int) + 1) := by show _ = _; unfold wrap64; omega
  have wd : wrap64 ((d : Int) + 1 - 1) = d := by unfold wrap64; omega
  have HS := hid hs
  have HGS := hid gs
  have HBS := hid bS
  have HH := hid h
  have HM := hid hm
  have HXV := hid hxv
  have HPAR := hid hpar
  have HML := hid hML
  have HDEP := hid hdep
  have HHH := hid (fun d' (hd' : d' < 8) => h.hh d' hd')
  clear hs gs bS h hm hxv hpar hML hdep e5 en hk hx hcv h1 h2 f99
  generalize (M.cd d).length = NL at *
  have HOP := hid hop
  clear hop
  go_enter Tryz.func106, Tryz.ntmps106
  go_wp2_with fail
  go_quiet (fail)
  have cn1 : (w.drewN nq).cell? ⟨r, 99 + d * 27 + 1, none⟩ = some (.int .i64 (k : Int)) := cn
  have zn1 : (w.drewN nq).frozen? ⟨r, 99 + d * 27 + 1, none⟩ = false := zn
  have cc1 : (w.drewN nq).cell? ⟨r, 99 + d * 27, none⟩ = some (.slice (some ⟨bc, oc, none⟩) NL cap) := cc
  have i1 : (w.drewN nq).cell? ⟨bc, oc + k * 2, none⟩ = some (.int .i64 op) := k0
  have j1 : (w.drewN nq).cell? ⟨bc, oc + k * 2 + 1, none⟩ = some (.int .i64 arg) := k1
  have a1 : (w.drewN nq).heap = w.heap /\ (w.drewN nq).os = w.os /\ (w.drewN nq).tape = w.tape /\ (w.drewN nq).output = w.output := ⟨rfl, rfl, rfl, rfl⟩
  clear cn zn cc k0 k1 c5
  generalize w.drewN nq = w1 at *
  go_wp2_with fail
  go_quiet (fail)
  have cn2 : (w1.drewN nq).cell? ⟨r, 99 + d * 27 + 1, none⟩ = some (.int .i64 (k : Int)) := cn1
  have zn2 : (w1.drewN nq).frozen? ⟨r, 99 + d * 27 + 1, none⟩ = false := zn1
  have cc2 : (w1.drewN nq).cell? ⟨r, 99 + d * 27, none⟩ = some (.slice (some ⟨bc, oc, none⟩) NL cap) := cc1
  have i2 : (w1.drewN nq).cell? ⟨bc, oc + k * 2, none⟩ = some (.int .i64 op) := i1
  have j2 : (w1.drewN nq).cell? ⟨bc, oc + k * 2 + 1, none⟩ = some (.int .i64 arg) := j1
  have a2 : (w1.drewN nq).heap = w.heap /\ (w1.drewN nq).os = w.os /\ (w1.drewN nq).tape = w.tape /\ (w1.drewN nq).output = w.output := a1
  clear cn1 zn1 cc1 i1 j1 a1
  generalize w1.drewN nq = w2 at *
  have wk := HWK.out
  clear wd
  go_wp2_with fail
  go_region
  have hop := HOP.out
  subst hop
  have eH : (w2.setCell ⟨r, 99 + d * 27 + 1, none⟩ (.int .i64 ((k : Int) + 1))).heap = (w.setCell ⟨r, fr d + 1, none⟩ (.int .i64 ((k : Int) + 1))).heap := by
    simp only [World.setCell, a2.1]; rfl
  have hA := HS.out.alike eH
  have bA := (Below.refl (w2.setCell ⟨r, 99 + d * 27 + 1, none⟩ (.int .i64 ((k : Int) + 1))).heap.size (w2.setCell ⟨r, 99 + d * 27 + 1, none⟩ (.int .i64 ((k : Int) + 1)))).alloc (Nat.le_refl _) (.cells #[.int .i64 14, .int .i64 arg] 56)
  have hX : MR (((w2.setCell ⟨r, 99 + d * 27 + 1, none⟩ (.int .i64 ((k : Int) + 1))).alloc (.cells #[.int .i64 14, .int .i64 arg] 56)).drew) r mk mv (M.setI (fr d + 1) ((k : Int) + 1)) := (hA.kept (grown_below bA none) (by simp)).alike rfl
  have gA : w.grownBy (w2.setCell ⟨r, 99 + d * 27 + 1, none⟩ (.int .i64 ((k : Int) + 1))) (some r) := ⟨a2.2.1, a2.2.2.1, a2.2.2.2, by rw [eH]; exact HGS.out.size, fun q hq hr => by rw [eH]; exact HGS.out.block q hq hr⟩
  have gX : w.grownBy (((w2.setCell ⟨r, 99 + d * 27 + 1, none⟩ (.int .i64 ((k : Int) + 1))).alloc (.cells #[.int .i64 14, .int .i64 arg] 56)).drew) (some r) := grown_alike (grown_trans gA (grown_below bA (some r))) ⟨rfl, rfl, rfl, rfl⟩
  have e1 : Mc.act m xv (M.setI (fr d + 1) ((k : Int) + 1)) d (14, arg) = Mc.begin m (xv arg.toNat) (M.setI (fr d + 1) ((k : Int) + 1)) d arg := by unfold Mc.act; simp
  have C := hid (mbegin_any r d m arg mk mv _ _ hX (HM.out.below (grown_low gX (Nat.le_of_lt hrw))) hd8 (by rw [setI_315]; exact HDEP.out) HPAR.out xv (HXV.out.below HM.out (grown_low gX (Nat.le_of_lt hrw))))
  unfold BegOut at C
  have HE1 := hid (HML.out.trans e1)
  rw [<- HE1.out] at C
  clear hA bA gA eH e1 hX HS HGS HBS HML HWK
  go_wp2_with fail
  refine C.out.mono ?_
  rintro e w3 ⟨rfl, h3, g3⟩
  have FIN : Hid (MDone w w3 r mk mv ML (.returned (.tuple #[]))) := ⟨rfl, h3, grown_trans gX g3⟩
  clear C h3 g3 gX
  go_wp2
  go_end0
  exact FIN.out
set_option maxRecDepth 100000 in
set_option maxHeartbeats 2000000 in
theorem mstep2 (r d k : Nat) (m : Pu.Md) (op arg : Int) (hop : op = 2) (mk mv : Value) (M : Mc) (w : World) (h : MR w r mk mv M) (hm : MdR w r mk mv m) (hpar : ∀ f ∈ m.funcs, f.params.length <= 4) (xv : Nat -> Value) (hxv : XvR w m mv xv) (hcd : CodeR w r (M.cv d) (M.cd d)) (hcl : (M.cd d).length <= maxLen)
    (hd8 : d < 8) (hdep : M.depth = (d : Int) + 1) (hk : M.next d = k) (hkl : k < (M.cd d).length) (hx : (M.cd d).getD k (0, 0) = (op, arg)) :
    Calls Tryz.prog 106 #[.pointer (some ⟨r, 0, none⟩)] w fun e w' => MDone w w' r mk mv (Mc.act m xv (M.setI (fr d + 1) ((k : Int) + 1)) d (op, arg)) e := by
  obtain ⟨ML, hML⟩ : ∃ ML, ML = Mc.act m xv (M.setI (fr d + 1) ((k : Int) + 1)) d (op, arg) := ⟨_, rfl⟩
  rw [<- hML]
  have c5 := h.ci (i := 315) (by unfold isI; omega)
  have e5 : M.ints 315 = (d : Int) + 1 := hdep
  rw [e5] at c5
  have cn := h.ci (isI_fr (i := 1) hd8 (by omega) (by omega))
  have en : M.ints (fr d + 1) = (k : Int) := hk
  rw [en] at cn
  have zn := h.fz (fr d + 1)
  have cc := h.cc hd8
  obtain ⟨ao, cap, bc, oc, hcv, h1, h2⟩ := hcd
  rw [hcv] at cc
  have wd8 : (d : Int) < 8 := by omega
  have wd1 : ¬ ((d : Int) + 1 < 1) := by omega
  have wd9 : ¬ (8 < (d : Int) + 1) := by omega
  have f99 : fr d = 99 + d * 27 := rfl
  unfold maxLen at hcl
  obtain ⟨rfl, hbr⟩ := h1 (by omega)
  obtain ⟨k0, k1⟩ := h2 k hkl
  have hbw : bc < w.heap.size := Nat.lt_trans hbr h.lt
  have wk0 : ¬ ((k : Int) < 0) := by omega
  have wkl : ¬ (((M.cd d).length : Int) <= (k : Int)) := by omega
  have wkl2 : (k : Int) < ((M.cd d).length : Int) := by omega
  rw [hx] at k0 k1
  simp only at k0 k1
  have G0 := grown_refl w (some r)
  have hs := h.setI (isI_fr (i := 1) hd8 (by omega) (by omega)) ((k : Int) + 1) (fun d' hd' he => by unfold fr at he; omega)
  have gs := grown_set w r (fr d + 1) (.int .i64 ((k : Int) + 1))
  have hrw := h.lt
  have bS := (Below.refl (w.setCell ⟨r, fr d + 1, none⟩ (.int .i64 ((k : Int) + 1))).heap.size (w.setCell ⟨r, fr d + 1, none⟩ (.int .i64 ((k : Int) + 1)))).alloc (Nat.le_refl _) (.cells #[.int .i64 op, .int .i64 arg] 56)
  rw [f99] at cn zn cc
  have HWK : Hid (wrap64 ((k : Int) + 1) = (k : Int) + 1) := by show _ = _; unfold wrap64; omega
  have wd : wrap64 ((d : Int) + 1 - 1) = d := by unfold wrap64; omega
  have HS := hid hs
  have HGS := hid gs
  have HBS := hid bS
  have HH := hid h
  have HM := hid hm
  have HXV := hid hxv
  have HPAR := hid hpar
  have HML := hid hML
  have HDEP := hid hdep
  have HHH := hid (fun d' (hd' : d' < 8) => h.hh d' hd')
  clear hs gs bS h hm hxv hpar hML hdep e5 en hk hx hcv h1 h2 f99
  generalize (M.cd d).length = NL at *
  have HOP := hid hop
  clear hop
  go_enter Tryz.func106, Tryz.ntmps106
  go_wp2_with fail
  go_quiet (fail)
  have cn1 : (w.drewN nq).cell? ⟨r, 99 + d * 27 + 1, none⟩ = some (.int .i64 (k : Int)) := cn
  have zn1 : (w.drewN nq).frozen? ⟨r, 99 + d * 27 + 1, none⟩ = false := zn
  have cc1 : (w.drewN nq).cell? ⟨r, 99 + d * 27, none⟩ = some (.slice (some ⟨bc, oc, none⟩) NL cap) := cc
  have i1 : (w.drewN nq).cell? ⟨bc, oc + k * 2, none⟩ = some (.int .i64 op) := k0
  have j1 : (w.drewN nq).cell? ⟨bc, oc + k * 2 + 1, none⟩ = some (.int .i64 arg) := k1
  have a1 : (w.drewN nq).heap = w.heap /\ (w.drewN nq).os = w.os /\ (w.drewN nq).tape = w.tape /\ (w.drewN nq).output = w.output := ⟨rfl, rfl, rfl, rfl⟩
  clear cn zn cc k0 k1 c5
  generalize w.drewN nq = w1 at *
  go_wp2_with fail
  go_quiet (fail)
  have cn2 : (w1.drewN nq).cell? ⟨r, 99 + d * 27 + 1, none⟩ = some (.int .i64 (k : Int)) := cn1
  have zn2 : (w1.drewN nq).frozen? ⟨r, 99 + d * 27 + 1, none⟩ = false := zn1
  have cc2 : (w1.drewN nq).cell? ⟨r, 99 + d * 27, none⟩ = some (.slice (some ⟨bc, oc, none⟩) NL cap) := cc1
  have i2 : (w1.drewN nq).cell? ⟨bc, oc + k * 2, none⟩ = some (.int .i64 op) := i1
  have j2 : (w1.drewN nq).cell? ⟨bc, oc + k * 2 + 1, none⟩ = some (.int .i64 arg) := j1
  have a2 : (w1.drewN nq).heap = w.heap /\ (w1.drewN nq).os = w.os /\ (w1.drewN nq).tape = w.tape /\ (w1.drewN nq).output = w.output := a1
  clear cn1 zn1 cc1 i1 j1 a1
  generalize w1.drewN nq = w2 at *
  have wk := HWK.out
  clear wd
  go_wp2_with fail
  go_region
  have hop := HOP.out
  subst hop
  have eH : (w2.setCell ⟨r, 99 + d * 27 + 1, none⟩ (.int .i64 ((k : Int) + 1))).heap = (w.setCell ⟨r, fr d + 1, none⟩ (.int .i64 ((k : Int) + 1))).heap := by
    simp only [World.setCell, a2.1]; rfl
  have hA := HS.out.alike eH
  have bA := (Below.refl (w2.setCell ⟨r, 99 + d * 27 + 1, none⟩ (.int .i64 ((k : Int) + 1))).heap.size (w2.setCell ⟨r, 99 + d * 27 + 1, none⟩ (.int .i64 ((k : Int) + 1)))).alloc (Nat.le_refl _) (.cells #[.int .i64 2, .int .i64 arg] 56)
  have hX : MR (((w2.setCell ⟨r, 99 + d * 27 + 1, none⟩ (.int .i64 ((k : Int) + 1))).alloc (.cells #[.int .i64 2, .int .i64 arg] 56)).drew) r mk mv (M.setI (fr d + 1) ((k : Int) + 1)) := (hA.kept (grown_below bA none) (by simp)).alike rfl
  have gA : w.grownBy (w2.setCell ⟨r, 99 + d * 27 + 1, none⟩ (.int .i64 ((k : Int) + 1))) (some r) := ⟨a2.2.1, a2.2.2.1, a2.2.2.2, by rw [eH]; exact HGS.out.size, fun q hq hr => by rw [eH]; exact HGS.out.block q hq hr⟩
  have gX : w.grownBy (((w2.setCell ⟨r, 99 + d * 27 + 1, none⟩ (.int .i64 ((k : Int) + 1))).alloc (.cells #[.int .i64 2, .int .i64 arg] 56)).drew) (some r) := grown_alike (grown_trans gA (grown_below bA (some r))) ⟨rfl, rfl, rfl, rfl⟩
  have e1 : Mc.act m xv (M.setI (fr d + 1) ((k : Int) + 1)) d (2, arg) = (M.setI (fr d + 1) ((k : Int) + 1)).reckon d 2 := by unfold Mc.act; simp
  have C := hid (mreckon_any r d 2 (by simp) mk mv _ _ hX hd8)
  have HE1 := hid (HML.out.trans e1)
  rw [<- HE1.out] at C
  clear hA bA gA eH e1 hX HS HGS HBS HML HWK
  go_wp2_with fail
  refine C.out.mono ?_
  rintro e w3 ⟨rfl, h3, g3⟩
  have FIN : Hid (MDone w w3 r mk mv ML (.returned (.tuple #[]))) := ⟨rfl, h3, grown_trans gX g3⟩
  clear C h3 g3 gX
  go_wp2
  go_end0
  exact FIN.out
set_option maxRecDepth 100000 in
set_option maxHeartbeats 2000000 in
theorem mstep3 (r d k : Nat) (m : Pu.Md) (op arg : Int) (hop : op = 3) (mk mv : Value) (M : Mc) (w : World) (h : MR w r mk mv M) (hm : MdR w r mk mv m) (hpar : ∀ f ∈ m.funcs, f.params.length <= 4) (xv : Nat -> Value) (hxv : XvR w m mv xv) (hcd : CodeR w r (M.cv d) (M.cd d)) (hcl : (M.cd d).length <= maxLen)
    (hd8 : d < 8) (hdep : M.depth = (d : Int) + 1) (hk : M.next d = k) (hkl : k < (M.cd d).length) (hx : (M.cd d).getD k (0, 0) = (op, arg)) :
    Calls Tryz.prog 106 #[.pointer (some ⟨r, 0, none⟩)] w fun e w' => MDone w w' r mk mv (Mc.act m xv (M.setI (fr d + 1) ((k : Int) + 1)) d (op, arg)) e := by
  obtain ⟨ML, hML⟩ : ∃ ML, ML = Mc.act m xv (M.setI (fr d + 1) ((k : Int) + 1)) d (op, arg) := ⟨_, rfl⟩
  rw [<- hML]
  have c5 := h.ci (i := 315) (by unfold isI; omega)
  have e5 : M.ints 315 = (d : Int) + 1 := hdep
  rw [e5] at c5
  have cn := h.ci (isI_fr (i := 1) hd8 (by omega) (by omega))
  have en : M.ints (fr d + 1) = (k : Int) := hk
  rw [en] at cn
  have zn := h.fz (fr d + 1)
  have cc := h.cc hd8
  obtain ⟨ao, cap, bc, oc, hcv, h1, h2⟩ := hcd
  rw [hcv] at cc
  have wd8 : (d : Int) < 8 := by omega
  have wd1 : ¬ ((d : Int) + 1 < 1) := by omega
  have wd9 : ¬ (8 < (d : Int) + 1) := by omega
  have f99 : fr d = 99 + d * 27 := rfl
  unfold maxLen at hcl
  obtain ⟨rfl, hbr⟩ := h1 (by omega)
  obtain ⟨k0, k1⟩ := h2 k hkl
  have hbw : bc < w.heap.size := Nat.lt_trans hbr h.lt
  have wk0 : ¬ ((k : Int) < 0) := by omega
  have wkl : ¬ (((M.cd d).length : Int) <= (k : Int)) := by omega
  have wkl2 : (k : Int) < ((M.cd d).length : Int) := by omega
  rw [hx] at k0 k1
  simp only at k0 k1
  have G0 := grown_refl w (some r)
  have hs := h.setI (isI_fr (i := 1) hd8 (by omega) (by omega)) ((k : Int) + 1) (fun d' hd' he => by unfold fr at he; omega)
  have gs := grown_set w r (fr d + 1) (.int .i64 ((k : Int) + 1))
  have hrw := h.lt
  have bS := (Below.refl (w.setCell ⟨r, fr d + 1, none⟩ (.int .i64 ((k : Int) + 1))).heap.size (w.setCell ⟨r, fr d + 1, none⟩ (.int .i64 ((k : Int) + 1)))).alloc (Nat.le_refl _) (.cells #[.int .i64 op, .int .i64 arg] 56)
  rw [f99] at cn zn cc
  have HWK : Hid (wrap64 ((k : Int) + 1) = (k : Int) + 1) := by show _ = _; unfold wrap64; omega
  have wd : wrap64 ((d : Int) + 1 - 1) = d := by unfold wrap64; omega
  have HS := hid hs
  have HGS := hid gs
  have HBS := hid bS
  have HH := hid h
  have HM := hid hm
  have HXV := hid hxv
  have HPAR := hid hpar
  have HML := hid hML
  have HDEP := hid hdep
  have HHH := hid (fun d' (hd' : d' < 8) => h.hh d' hd')
  clear hs gs bS h hm hxv hpar hML hdep e5 en hk hx hcv h1 h2 f99
  generalize (M.cd d).length = NL at *
  have HOP := hid hop
  clear hop
  go_enter Tryz.func106, Tryz.ntmps106
  go_wp2_with fail
  go_quiet (fail)
  have cn1 : (w.drewN nq).cell? ⟨r, 99 + d * 27 + 1, none⟩ = some (.int .i64 (k : Int)) := cn
  have zn1 : (w.drewN nq).frozen? ⟨r, 99 + d * 27 + 1, none⟩ = false := zn
  have cc1 : (w.drewN nq).cell? ⟨r, 99 + d * 27, none⟩ = some (.slice (some ⟨bc, oc, none⟩) NL cap) := cc
  have i1 : (w.drewN nq).cell? ⟨bc, oc + k * 2, none⟩ = some (.int .i64 op) := k0
  have j1 : (w.drewN nq).cell? ⟨bc, oc + k * 2 + 1, none⟩ = some (.int .i64 arg) := k1
  have a1 : (w.drewN nq).heap = w.heap /\ (w.drewN nq).os = w.os /\ (w.drewN nq).tape = w.tape /\ (w.drewN nq).output = w.output := ⟨rfl, rfl, rfl, rfl⟩
  clear cn zn cc k0 k1 c5
  generalize w.drewN nq = w1 at *
  go_wp2_with fail
  go_quiet (fail)
  have cn2 : (w1.drewN nq).cell? ⟨r, 99 + d * 27 + 1, none⟩ = some (.int .i64 (k : Int)) := cn1
  have zn2 : (w1.drewN nq).frozen? ⟨r, 99 + d * 27 + 1, none⟩ = false := zn1
  have cc2 : (w1.drewN nq).cell? ⟨r, 99 + d * 27, none⟩ = some (.slice (some ⟨bc, oc, none⟩) NL cap) := cc1
  have i2 : (w1.drewN nq).cell? ⟨bc, oc + k * 2, none⟩ = some (.int .i64 op) := i1
  have j2 : (w1.drewN nq).cell? ⟨bc, oc + k * 2 + 1, none⟩ = some (.int .i64 arg) := j1
  have a2 : (w1.drewN nq).heap = w.heap /\ (w1.drewN nq).os = w.os /\ (w1.drewN nq).tape = w.tape /\ (w1.drewN nq).output = w.output := a1
  clear cn1 zn1 cc1 i1 j1 a1
  generalize w1.drewN nq = w2 at *
  have wk := HWK.out
  clear wd
  go_wp2_with fail
  go_region
  have hop := HOP.out
  subst hop
  have eH : (w2.setCell ⟨r, 99 + d * 27 + 1, none⟩ (.int .i64 ((k : Int) + 1))).heap = (w.setCell ⟨r, fr d + 1, none⟩ (.int .i64 ((k : Int) + 1))).heap := by
    simp only [World.setCell, a2.1]; rfl
  have hA := HS.out.alike eH
  have bA := (Below.refl (w2.setCell ⟨r, 99 + d * 27 + 1, none⟩ (.int .i64 ((k : Int) + 1))).heap.size (w2.setCell ⟨r, 99 + d * 27 + 1, none⟩ (.int .i64 ((k : Int) + 1)))).alloc (Nat.le_refl _) (.cells #[.int .i64 3, .int .i64 arg] 56)
  have hX : MR (((w2.setCell ⟨r, 99 + d * 27 + 1, none⟩ (.int .i64 ((k : Int) + 1))).alloc (.cells #[.int .i64 3, .int .i64 arg] 56)).drew) r mk mv (M.setI (fr d + 1) ((k : Int) + 1)) := (hA.kept (grown_below bA none) (by simp)).alike rfl
  have gA : w.grownBy (w2.setCell ⟨r, 99 + d * 27 + 1, none⟩ (.int .i64 ((k : Int) + 1))) (some r) := ⟨a2.2.1, a2.2.2.1, a2.2.2.2, by rw [eH]; exact HGS.out.size, fun q hq hr => by rw [eH]; exact HGS.out.block q hq hr⟩
  have gX : w.grownBy (((w2.setCell ⟨r, 99 + d * 27 + 1, none⟩ (.int .i64 ((k : Int) + 1))).alloc (.cells #[.int .i64 3, .int .i64 arg] 56)).drew) (some r) := grown_alike (grown_trans gA (grown_below bA (some r))) ⟨rfl, rfl, rfl, rfl⟩
  have e1 : Mc.act m xv (M.setI (fr d + 1) ((k : Int) + 1)) d (3, arg) = (M.setI (fr d + 1) ((k : Int) + 1)).reckon d 3 := by unfold Mc.act; simp
  have C := hid (mreckon_any r d 3 (by simp) mk mv _ _ hX hd8)
  have HE1 := hid (HML.out.trans e1)
  rw [<- HE1.out] at C
  clear hA bA gA eH e1 hX HS HGS HBS HML HWK
  go_wp2_with fail
  refine C.out.mono ?_
  rintro e w3 ⟨rfl, h3, g3⟩
  have FIN : Hid (MDone w w3 r mk mv ML (.returned (.tuple #[]))) := ⟨rfl, h3, grown_trans gX g3⟩
  clear C h3 g3 gX
  go_wp2
  go_end0
  exact FIN.out
set_option maxRecDepth 100000 in
set_option maxHeartbeats 2000000 in
theorem mstep4 (r d k : Nat) (m : Pu.Md) (op arg : Int) (hop : op = 4) (mk mv : Value) (M : Mc) (w : World) (h : MR w r mk mv M) (hm : MdR w r mk mv m) (hpar : ∀ f ∈ m.funcs, f.params.length <= 4) (xv : Nat -> Value) (hxv : XvR w m mv xv) (hcd : CodeR w r (M.cv d) (M.cd d)) (hcl : (M.cd d).length <= maxLen)
    (hd8 : d < 8) (hdep : M.depth = (d : Int) + 1) (hk : M.next d = k) (hkl : k < (M.cd d).length) (hx : (M.cd d).getD k (0, 0) = (op, arg)) :
    Calls Tryz.prog 106 #[.pointer (some ⟨r, 0, none⟩)] w fun e w' => MDone w w' r mk mv (Mc.act m xv (M.setI (fr d + 1) ((k : Int) + 1)) d (op, arg)) e := by
  obtain ⟨ML, hML⟩ : ∃ ML, ML = Mc.act m xv (M.setI (fr d + 1) ((k : Int) + 1)) d (op, arg) := ⟨_, rfl⟩
  rw [<- hML]
  have c5 := h.ci (i := 315) (by unfold isI; omega)
  have e5 : M.ints 315 = (d : Int) + 1 := hdep
  rw [e5] at c5
  have cn := h.ci (isI_fr (i := 1) hd8 (by omega) (by omega))
  have en : M.ints (fr d + 1) = (k : Int) := hk
  rw [en] at cn
  have zn := h.fz (fr d + 1)
  have cc := h.cc hd8
  obtain ⟨ao, cap, bc, oc, hcv, h1, h2⟩ := hcd
  rw [hcv] at cc
  have wd8 : (d : Int) < 8 := by omega
  have wd1 : ¬ ((d : Int) + 1 < 1) := by omega
  have wd9 : ¬ (8 < (d : Int) + 1) := by omega
  have f99 : fr d = 99 + d * 27 := rfl
  unfold maxLen at hcl
  obtain ⟨rfl, hbr⟩ := h1 (by omega)
  obtain ⟨k0, k1⟩ := h2 k hkl
  have hbw : bc < w.heap.size := Nat.lt_trans hbr h.lt
  have wk0 : ¬ ((k : Int) < 0) := by omega
  have wkl : ¬ (((M.cd d).length : Int) <= (k : Int)) := by omega
  have wkl2 : (k : Int) < ((M.cd d).length : Int) := by omega
  rw [hx] at k0 k1
  simp only at k0 k1
  have G0 := grown_refl w (some r)
  have hs := h.setI (isI_fr (i := 1) hd8 (by omega) (by omega)) ((k : Int) + 1) (fun d' hd' he => by unfold fr at he; omega)
  have gs := grown_set w r (fr d + 1) (.int .i64 ((k : Int) + 1))
  have hrw := h.lt
  have bS := (Below.refl (w.setCell ⟨r, fr d + 1, none⟩ (.int .i64 ((k : Int) + 1))).heap.size (w.setCell ⟨r, fr d + 1, none⟩ (.int .i64 ((k : Int) + 1)))).alloc (Nat.le_refl _) (.cells #[.int .i64 op, .int .i64 arg] 56)
  rw [f99] at cn zn cc
  have HWK : Hid (wrap64 ((k : Int) + 1) = (k : Int) + 1) := by show _ = _; unfold wrap64; omega
  have wd : wrap64 ((d : Int) + 1 - 1) = d := by unfold wrap64; omega
  have HS := hid hs
  have HGS := hid gs
  have HBS := hid bS
  have HH := hid h
  have HM := hid hm
  have HXV := hid hxv
  have HPAR := hid hpar
  have HML := hid hML
  have HDEP := hid hdep
  have HHH := hid (fun d' (hd' : d' < 8) => h.hh d' hd')
  clear hs gs bS h hm hxv hpar hML hdep e5 en hk hx hcv h1 h2 f99
  generalize (M.cd d).length = NL at *
  have HOP := hid hop
  clear hop
  go_enter Tryz.func106, Tryz.ntmps106
  go_wp2_with fail
  go_quiet (fail)
  have cn1 : (w.drewN nq).cell? ⟨r, 99 + d * 27 + 1, none⟩ = some (.int .i64 (k : Int)) := cn
  have zn1 : (w.drewN nq).frozen? ⟨r, 99 + d * 27 + 1, none⟩ = false := zn
  have cc1 : (w.drewN nq).cell? ⟨r, 99 + d * 27, none⟩ = some (.slice (some ⟨bc, oc, none⟩) NL cap) := cc
  have i1 : (w.drewN nq).cell? ⟨bc, oc + k * 2, none⟩ = some (.int .i64 op) := k0
  have j1 : (w.drewN nq).cell? ⟨bc, oc + k * 2 + 1, none⟩ = some (.int .i64 arg) := k1
  have a1 : (w.drewN nq).heap = w.heap /\ (w.drewN nq).os = w.os /\ (w.drewN nq).tape = w.tape /\ (w.drewN nq).output = w.output := ⟨rfl, rfl, rfl, rfl⟩
  clear cn zn cc k0 k1 c5
  generalize w.drewN nq = w1 at *
  go_wp2_with fail
  go_quiet (fail)
  have cn2 : (w1.drewN nq).cell? ⟨r, 99 + d * 27 + 1, none⟩ = some (.int .i64 (k : Int)) := cn1
  have zn2 : (w1.drewN nq).frozen? ⟨r, 99 + d * 27 + 1, none⟩ = false := zn1
  have cc2 : (w1.drewN nq).cell? ⟨r, 99 + d * 27, none⟩ = some (.slice (some ⟨bc, oc, none⟩) NL cap) := cc1
  have i2 : (w1.drewN nq).cell? ⟨bc, oc + k * 2, none⟩ = some (.int .i64 op) := i1
  have j2 : (w1.drewN nq).cell? ⟨bc, oc + k * 2 + 1, none⟩ = some (.int .i64 arg) := j1
  have a2 : (w1.drewN nq).heap = w.heap /\ (w1.drewN nq).os = w.os /\ (w1.drewN nq).tape = w.tape /\ (w1.drewN nq).output = w.output := a1
  clear cn1 zn1 cc1 i1 j1 a1
  generalize w1.drewN nq = w2 at *
  have wk := HWK.out
  clear wd
  go_wp2_with fail
  go_region
  have hop := HOP.out
  subst hop
  have eH : (w2.setCell ⟨r, 99 + d * 27 + 1, none⟩ (.int .i64 ((k : Int) + 1))).heap = (w.setCell ⟨r, fr d + 1, none⟩ (.int .i64 ((k : Int) + 1))).heap := by
    simp only [World.setCell, a2.1]; rfl
  have hA := HS.out.alike eH
  have bA := (Below.refl (w2.setCell ⟨r, 99 + d * 27 + 1, none⟩ (.int .i64 ((k : Int) + 1))).heap.size (w2.setCell ⟨r, 99 + d * 27 + 1, none⟩ (.int .i64 ((k : Int) + 1)))).alloc (Nat.le_refl _) (.cells #[.int .i64 4, .int .i64 arg] 56)
  have hX : MR (((w2.setCell ⟨r, 99 + d * 27 + 1, none⟩ (.int .i64 ((k : Int) + 1))).alloc (.cells #[.int .i64 4, .int .i64 arg] 56)).drew) r mk mv (M.setI (fr d + 1) ((k : Int) + 1)) := (hA.kept (grown_below bA none) (by simp)).alike rfl
  have gA : w.grownBy (w2.setCell ⟨r, 99 + d * 27 + 1, none⟩ (.int .i64 ((k : Int) + 1))) (some r) := ⟨a2.2.1, a2.2.2.1, a2.2.2.2, by rw [eH]; exact HGS.out.size, fun q hq hr => by rw [eH]; exact HGS.out.block q hq hr⟩
  have gX : w.grownBy (((w2.setCell ⟨r, 99 + d * 27 + 1, none⟩ (.int .i64 ((k : Int) + 1))).alloc (.cells #[.int .i64 4, .int .i64 arg] 56)).drew) (some r) := grown_alike (grown_trans gA (grown_below bA (some r))) ⟨rfl, rfl, rfl, rfl⟩
  have e1 : Mc.act m xv (M.setI (fr d + 1) ((k : Int) + 1)) d (4, arg) = (M.setI (fr d + 1) ((k : Int) + 1)).reckon d 4 := by unfold Mc.act; simp
  have C := hid (mreckon_any r d 4 (by simp) mk mv _ _ hX hd8)
  have HE1 := hid (HML.out.trans e1)
  rw [<- HE1.out] at C
  clear hA bA gA eH e1 hX HS HGS HBS HML HWK
  go_wp2_with fail
  refine C.out.mono ?_
  rintro e w3 ⟨rfl, h3, g3⟩
  have FIN : Hid (MDone w w3 r mk mv ML (.returned (.tuple #[]))) := ⟨rfl, h3, grown_trans gX g3⟩
  clear C h3 g3 gX
  go_wp2
  go_end0
  exact FIN.out
set_option maxRecDepth 100000 in
set_option maxHeartbeats 2000000 in
theorem mstep5 (r d k : Nat) (m : Pu.Md) (op arg : Int) (hop : op = 5) (mk mv : Value) (M : Mc) (w : World) (h : MR w r mk mv M) (hm : MdR w r mk mv m) (hpar : ∀ f ∈ m.funcs, f.params.length <= 4) (xv : Nat -> Value) (hxv : XvR w m mv xv) (hcd : CodeR w r (M.cv d) (M.cd d)) (hcl : (M.cd d).length <= maxLen)
    (hd8 : d < 8) (hdep : M.depth = (d : Int) + 1) (hk : M.next d = k) (hkl : k < (M.cd d).length) (hx : (M.cd d).getD k (0, 0) = (op, arg)) :
    Calls Tryz.prog 106 #[.pointer (some ⟨r, 0, none⟩)] w fun e w' => MDone w w' r mk mv (Mc.act m xv (M.setI (fr d + 1) ((k : Int) + 1)) d (op, arg)) e := by
  obtain ⟨ML, hML⟩ : ∃ ML, ML = Mc.act m xv (M.setI (fr d + 1) ((k : Int) + 1)) d (op, arg) := ⟨_, rfl⟩
  rw [<- hML]
  have c5 := h.ci (i := 315) (by unfold isI; omega)
  have e5 : M.ints 315 = (d : Int) + 1 := hdep
  rw [e5] at c5
  have cn := h.ci (isI_fr (i := 1) hd8 (by omega) (by omega))
  have en : M.ints (fr d + 1) = (k : Int) := hk
  rw [en] at cn
  have zn := h.fz (fr d + 1)
  have cc := h.cc hd8
  obtain ⟨ao, cap, bc, oc, hcv, h1, h2⟩ := hcd
  rw [hcv] at cc
  have wd8 : (d : Int) < 8 := by omega
  have wd1 : ¬ ((d : Int) + 1 < 1) := by omega
  have wd9 : ¬ (8 < (d : Int) + 1) := by omega
  have f99 : fr d = 99 + d * 27 := rfl
  unfold maxLen at hcl
  obtain ⟨rfl, hbr⟩ := h1 (by omega)
  obtain ⟨k0, k1⟩ := h2 k hkl
  have hbw : bc < w.heap.size := Nat.lt_trans hbr h.lt
  have wk0 : ¬ ((k : Int) < 0) := by omega
  have wkl : ¬ (((M.cd d).length : Int) <= (k : Int)) := by omega
  have wkl2 : (k : Int) < ((M.cd d).length : Int) := by omega
  rw [hx] at k0 k1
  simp only at k0 k1
  have G0 := grown_refl w (some r)
  have hs := h.setI (isI_fr (i := 1) hd8 (by omega) (by omega)) ((k : Int) + 1) (fun d' hd' he => by unfold fr at he; omega)
  have gs := grown_set w r (fr d + 1) (.int .i64 ((k : Int) + 1))
  have hrw := h.lt
  have bS := (Below.refl (w.setCell ⟨r, fr d + 1, none⟩ (.int .i64 ((k : Int) + 1))).heap.size (w.setCell ⟨r, fr d + 1, none⟩ (.int .i64 ((k : Int) + 1)))).alloc (Nat.le_refl _) (.cells #[.int .i64 op, .int .i64 arg] 56)
  rw [f99] at cn zn cc
  have HWK : Hid (wrap64 ((k : Int) + 1) = (k : Int) + 1) := by show _ = _; unfold wrap64; omega
  have wd : wrap64 ((d : Int) + 1 - 1) = d := by unfold wrap64; omega
  have HS := hid hs
  have HGS := hid gs
  have HBS := hid bS
  have HH := hid h
  have HM := hid hm
  have HXV := hid hxv
  have HPAR := hid hpar
  have HML := hid hML
  have HDEP := hid hdep
  have HHH := hid (fun d' (hd' : d' < 8) => h.hh d' hd')
  clear hs gs bS h hm hxv hpar hML hdep e5 en hk hx hcv h1 h2 f99
  generalize (M.cd d).length = NL at *
  have HOP := hid hop
  clear hop
  go_enter Tryz.func106, Tryz.ntmps106
  go_wp2_with fail
  go_quiet (fail)
  have cn1 : (w.drewN nq).cell? ⟨r, 99 + d * 27 + 1, none⟩ = some (.int .i64 (k : Int)) := cn
  have zn1 : (w.drewN nq).frozen? ⟨r, 99 + d * 27 + 1, none⟩ = false := zn
  have cc1 : (w.drewN nq).cell? ⟨r, 99 + d * 27, none⟩ = some (.slice (some ⟨bc, oc, none⟩) NL cap) := cc
  have i1 : (w.drewN nq).cell? ⟨bc, oc + k * 2, none⟩ = some (.int .i64 op) := k0
  have j1 : (w.drewN nq).cell? ⟨bc, oc + k * 2 + 1, none⟩ = some (.int .i64 arg) := k1
  have a1 : (w.drewN nq).heap = w.heap /\ (w.drewN nq).os = w.os /\ (w.drewN nq).tape = w.tape /\ (w.drewN nq).output = w.output := ⟨rfl, rfl, rfl, rfl⟩
  clear cn zn cc k0 k1 c5
  generalize w.drewN nq = w1 at *
  go_wp2_with fail
  go_quiet (fail)
  have cn2 : (w1.drewN nq).cell? ⟨r, 99 + d * 27 + 1, none⟩ = some (.int .i64 (k : Int)) := cn1
  have zn2 : (w1.drewN nq).frozen? ⟨r, 99 + d * 27 + 1, none⟩ = false := zn1
  have cc2 : (w1.drewN nq).cell? ⟨r, 99 + d * 27, none⟩ = some (.slice (some ⟨bc, oc, none⟩) NL cap) := cc1
  have i2 : (w1.drewN nq).cell? ⟨bc, oc + k * 2, none⟩ = some (.int .i64 op) := i1
  have j2 : (w1.drewN nq).cell? ⟨bc, oc + k * 2 + 1, none⟩ = some (.int .i64 arg) := j1
  have a2 : (w1.drewN nq).heap = w.heap /\ (w1.drewN nq).os = w.os /\ (w1.drewN nq).tape = w.tape /\ (w1.drewN nq).output = w.output := a1
  clear cn1 zn1 cc1 i1 j1 a1
  generalize w1.drewN nq = w2 at *
  have wk := HWK.out
  clear wd
  go_wp2_with fail
  go_region
  have hop := HOP.out
  subst hop
  have eH : (w2.setCell ⟨r, 99 + d * 27 + 1, none⟩ (.int .i64 ((k : Int) + 1))).heap = (w.setCell ⟨r, fr d + 1, none⟩ (.int .i64 ((k : Int) + 1))).heap := by
    simp only [World.setCell, a2.1]; rfl
  have hA := HS.out.alike eH
  have bA := (Below.refl (w2.setCell ⟨r, 99 + d * 27 + 1, none⟩ (.int .i64 ((k : Int) + 1))).heap.size (w2.setCell ⟨r, 99 + d * 27 + 1, none⟩ (.int .i64 ((k : Int) + 1)))).alloc (Nat.le_refl _) (.cells #[.int .i64 5, .int .i64 arg] 56)
  have hX : MR (((w2.setCell ⟨r, 99 + d * 27 + 1, none⟩ (.int .i64 ((k : Int) + 1))).alloc (.cells #[.int .i64 5, .int .i64 arg] 56)).drew) r mk mv (M.setI (fr d + 1) ((k : Int) + 1)) := (hA.kept (grown_below bA none) (by simp)).alike rfl
  have gA : w.grownBy (w2.setCell ⟨r, 99 + d * 27 + 1, none⟩ (.int .i64 ((k : Int) + 1))) (some r) := ⟨a2.2.1, a2.2.2.1, a2.2.2.2, by rw [eH]; exact HGS.out.size, fun q hq hr => by rw [eH]; exact HGS.out.block q hq hr⟩
  have gX : w.grownBy (((w2.setCell ⟨r, 99 + d * 27 + 1, none⟩ (.int .i64 ((k : Int) + 1))).alloc (.cells #[.int .i64 5, .int .i64 arg] 56)).drew) (some r) := grown_alike (grown_trans gA (grown_below bA (some r))) ⟨rfl, rfl, rfl, rfl⟩
  have e1 : Mc.act m xv (M.setI (fr d + 1) ((k : Int) + 1)) d (5, arg) = (M.setI (fr d + 1) ((k : Int) + 1)).reckon d 5 := by unfold Mc.act; simp
  have C := hid (mreckon_any r d 5 (by simp) mk mv _ _ hX hd8)
  have HE1 := hid (HML.out.trans e1)
  rw [<- HE1.out] at C
  clear hA bA gA eH e1 hX HS HGS HBS HML HWK
  go_wp2_with fail
  refine C.out.mono ?_
  rintro e w3 ⟨rfl, h3, g3⟩
  have FIN : Hid (MDone w w3 r mk mv ML (.returned (.tuple #[]))) := ⟨rfl, h3, grown_trans gX g3⟩
  clear C h3 g3 gX
  go_wp2
  go_end0
  exact FIN.out
set_option maxRecDepth 100000 in
set_option maxHeartbeats 2000000 in
theorem mstep15 (r d k : Nat) (m : Pu.Md) (op arg : Int) (hop : op = 15) (mk mv : Value) (M : Mc) (w : World) (h : MR w r mk mv M) (hm : MdR w r mk mv m) (hpar : ∀ f ∈ m.funcs, f.params.length <= 4) (xv : Nat -> Value) (hxv : XvR w m mv xv) (hcd : CodeR w r (M.cv d) (M.cd d)) (hcl : (M.cd d).length <= maxLen)
    (hd8 : d < 8) (hdep : M.depth = (d : Int) + 1) (hk : M.next d = k) (hkl : k < (M.cd d).length) (hx : (M.cd d).getD k (0, 0) = (op, arg)) :
    Calls Tryz.prog 106 #[.pointer (some ⟨r, 0, none⟩)] w fun e w' => MDone w w' r mk mv (Mc.act m xv (M.setI (fr d + 1) ((k : Int) + 1)) d (op, arg)) e := by
  obtain ⟨ML, hML⟩ : ∃ ML, ML = Mc.act m xv (M.setI (fr d + 1) ((k : Int) + 1)) d (op, arg) := ⟨_, rfl⟩
  rw [<- hML]
  have c5 := h.ci (i := 315) (by unfold isI; omega)
  have e5 : M.ints 315 = (d : Int) + 1 := hdep
  rw [e5] at c5
  have cn := h.ci (isI_fr (i := 1) hd8 (by omega) (by omega))
  have en : M.ints (fr d + 1) = (k : Int) := hk
  rw [en] at cn
  have zn := h.fz (fr d + 1)
  have cc := h.cc hd8
  obtain ⟨ao, cap, bc, oc, hcv, h1, h2⟩ := hcd
  rw [hcv] at cc
  have wd8 : (d : Int) < 8 := by omega
  have wd1 : ¬ ((d : Int) + 1 < 1) := by omega
  have wd9 : ¬ (8 < (d : Int) + 1) := by omega
  have f99 : fr d = 99 + d * 27 := rfl
  unfold maxLen at hcl
  obtain ⟨rfl, hbr⟩ := h1 (by omega)
  obtain ⟨k0, k1⟩ := h2 k hkl
  have hbw : bc < w.heap.size := Nat.lt_trans hbr h.lt
  have wk0 : ¬ ((k : Int) < 0) := by omega
  have wkl : ¬ (((M.cd d).length : Int) <= (k : Int)) := by omega
  have wkl2 : (k : Int) < ((M.cd d).length : Int) := by omega
  rw [hx] at k0 k1
  simp only at k0 k1
  have G0 := grown_refl w (some r)
  have hs := h.setI (isI_fr (i := 1) hd8 (by omega) (by omega)) ((k : Int) + 1) (fun d' hd' he => by unfold fr at he; omega)
  have gs := grown_set w r (fr d + 1) (.int .i64 ((k : Int) + 1))
  have hrw := h.lt
  have bS := (Below.refl (w.setCell ⟨r, fr d + 1, none⟩ (.int .i64 ((k : Int) + 1))).heap.size (w.setCell ⟨r, fr d + 1, none⟩ (.int .i64 ((k : Int) + 1)))).alloc (Nat.le_refl _) (.cells #[.int .i64 op, .int .i64 arg] 56)
  rw [f99] at cn zn cc
  have HWK : Hid (wrap64 ((k : Int) + 1) = (k : Int) + 1) := by show _ = _; unfold wrap64; omega
  have wd : wrap64 ((d : Int) + 1 - 1) = d := by unfold wrap64; omega
  have HS := hid hs
  have HGS := hid gs
  have HBS := hid bS
  have HH := hid h
  have HM := hid hm
  have HXV := hid hxv
  have HPAR := hid hpar
  have HML := hid hML
  have HDEP := hid hdep
  have HHH := hid (fun d' (hd' : d' < 8) => h.hh d' hd')
  clear hs gs bS h hm hxv hpar hML hdep e5 en hk hx hcv h1 h2 f99
  generalize (M.cd d).length = NL at *
  have HOP := hid hop
  clear hop
  go_enter Tryz.func106, Tryz.ntmps106
  go_wp2_with fail
  go_quiet (fail)
  have cn1 : (w.drewN nq).cell? ⟨r, 99 + d * 27 + 1, none⟩ = some (.int .i64 (k : Int)) := cn
  have zn1 : (w.drewN nq).frozen? ⟨r, 99 + d * 27 + 1, none⟩ = false := zn
  have cc1 : (w.drewN nq).cell? ⟨r, 99 + d * 27, none⟩ = some (.slice (some ⟨bc, oc, none⟩) NL cap) := cc
  have i1 : (w.drewN nq).cell? ⟨bc, oc + k * 2, none⟩ = some (.int .i64 op) := k0
  have j1 : (w.drewN nq).cell? ⟨bc, oc + k * 2 + 1, none⟩ = some (.int .i64 arg) := k1
  have a1 : (w.drewN nq).heap = w.heap /\ (w.drewN nq).os = w.os /\ (w.drewN nq).tape = w.tape /\ (w.drewN nq).output = w.output := ⟨rfl, rfl, rfl, rfl⟩
  clear cn zn cc k0 k1 c5
  generalize w.drewN nq = w1 at *
  go_wp2_with fail
  go_quiet (fail)
  have cn2 : (w1.drewN nq).cell? ⟨r, 99 + d * 27 + 1, none⟩ = some (.int .i64 (k : Int)) := cn1
  have zn2 : (w1.drewN nq).frozen? ⟨r, 99 + d * 27 + 1, none⟩ = false := zn1
  have cc2 : (w1.drewN nq).cell? ⟨r, 99 + d * 27, none⟩ = some (.slice (some ⟨bc, oc, none⟩) NL cap) := cc1
  have i2 : (w1.drewN nq).cell? ⟨bc, oc + k * 2, none⟩ = some (.int .i64 op) := i1
  have j2 : (w1.drewN nq).cell? ⟨bc, oc + k * 2 + 1, none⟩ = some (.int .i64 arg) := j1
  have a2 : (w1.drewN nq).heap = w.heap /\ (w1.drewN nq).os = w.os /\ (w1.drewN nq).tape = w.tape /\ (w1.drewN nq).output = w.output := a1
  clear cn1 zn1 cc1 i1 j1 a1
  generalize w1.drewN nq = w2 at *
  have wk := HWK.out
  clear wd
  go_wp2_with fail
  go_region
  have hop := HOP.out
  subst hop
  have eH : (w2.setCell ⟨r, 99 + d * 27 + 1, none⟩ (.int .i64 ((k : Int) + 1))).heap = (w.setCell ⟨r, fr d + 1, none⟩ (.int .i64 ((k : Int) + 1))).heap := by
    simp only [World.setCell, a2.1]; rfl
  have hA := HS.out.alike eH
  have bA := (Below.refl (w2.setCell ⟨r, 99 + d * 27 + 1, none⟩ (.int .i64 ((k : Int) + 1))).heap.size (w2.setCell ⟨r, 99 + d * 27 + 1, none⟩ (.int .i64 ((k : Int) + 1)))).alloc (Nat.le_refl _) (.cells #[.int .i64 15, .int .i64 arg] 56)
  have hX : MR (((w2.setCell ⟨r, 99 + d * 27 + 1, none⟩ (.int .i64 ((k : Int) + 1))).alloc (.cells #[.int .i64 15, .int .i64 arg] 56)).drew) r mk mv (M.setI (fr d + 1) ((k : Int) + 1)) := (hA.kept (grown_below bA none) (by simp)).alike rfl
  have gA : w.grownBy (w2.setCell ⟨r, 99 + d * 27 + 1, none⟩ (.int .i64 ((k : Int) + 1))) (some r) := ⟨a2.2.1, a2.2.2.1, a2.2.2.2, by rw [eH]; exact HGS.out.size, fun q hq hr => by rw [eH]; exact HGS.out.block q hq hr⟩
  have gX : w.grownBy (((w2.setCell ⟨r, 99 + d * 27 + 1, none⟩ (.int .i64 ((k : Int) + 1))).alloc (.cells #[.int .i64 15, .int .i64 arg] 56)).drew) (some r) := grown_alike (grown_trans gA (grown_below bA (some r))) ⟨rfl, rfl, rfl, rfl⟩
  have e1 : Mc.act m xv (M.setI (fr d + 1) ((k : Int) + 1)) d (15, arg) = (M.setI (fr d + 1) ((k : Int) + 1)).fetch d arg := by unfold Mc.act; simp
  have C := hid (mfetch_any r d arg mk mv _ _ hX hd8)
  have HE1 := hid (HML.out.trans e1)
  rw [<- HE1.out] at C
  clear hA bA gA eH e1 hX HS HGS HBS HML HWK
  go_wp2_with fail
  refine C.out.mono ?_
  rintro e w3 ⟨rfl, h3, g3⟩
  have FIN : Hid (MDone w w3 r mk mv ML (.returned (.tuple #[]))) := ⟨rfl, h3, grown_trans gX g3⟩
  clear C h3 g3 gX
  go_wp2
  go_end0
  exact FIN.out
set_option maxRecDepth 100000 in
set_option maxHeartbeats 2000000 in
theorem mstep16 (r d k : Nat) (m : Pu.Md) (op arg : Int) (hop : op = 16) (mk mv : Value) (M : Mc) (w : World) (h : MR w r mk mv M) (hm : MdR w r mk mv m) (hpar : ∀ f ∈ m.funcs, f.params.length <= 4) (xv : Nat -> Value) (hxv : XvR w m mv xv) (hcd : CodeR w r (M.cv d) (M.cd d)) (hcl : (M.cd d).length <= maxLen)
    (hd8 : d < 8) (hdep : M.depth = (d : Int) + 1) (hk : M.next d = k) (hkl : k < (M.cd d).length) (hx : (M.cd d).getD k (0, 0) = (op, arg)) :
    Calls Tryz.prog 106 #[.pointer (some ⟨r, 0, none⟩)] w fun e w' => MDone w w' r mk mv (Mc.act m xv (M.setI (fr d + 1) ((k : Int) + 1)) d (op, arg)) e := by
  obtain ⟨ML, hML⟩ : ∃ ML, ML = Mc.act m xv (M.setI (fr d + 1) ((k : Int) + 1)) d (op, arg) := ⟨_, rfl⟩
  rw [<- hML]
  have c5 := h.ci (i := 315) (by unfold isI; omega)
  have e5 : M.ints 315 = (d : Int) + 1 := hdep
  rw [e5] at c5
  have cn := h.ci (isI_fr (i := 1) hd8 (by omega) (by omega))
  have en : M.ints (fr d + 1) = (k : Int) := hk
  rw [en] at cn
  have zn := h.fz (fr d + 1)
  have cc := h.cc hd8
  obtain ⟨ao, cap, bc, oc, hcv, h1, h2⟩ := hcd
  rw [hcv] at cc
  have wd8 : (d : Int) < 8 := by omega
  have wd1 : ¬ ((d : Int) + 1 < 1) := by omega
  have wd9 : ¬ (8 < (d : Int) + 1) := by omega
  have f99 : fr d = 99 + d * 27 := rfl
  unfold maxLen at hcl
  obtain ⟨rfl, hbr⟩ := h1 (by omega)
  obtain ⟨k0, k1⟩ := h2 k hkl
  have hbw : bc < w.heap.size := Nat.lt_trans hbr h.lt
  have wk0 : ¬ ((k : Int) < 0) := by omega
  have wkl : ¬ (((M.cd d).length : Int) <= (k : Int)) := by omega
  have wkl2 : (k : Int) < ((M.cd d).length : Int) := by omega
  rw [hx] at k0 k1
  simp only at k0 k1
  have G0 := grown_refl w (some r)
  have hs := h.setI (isI_fr (i := 1) hd8 (by omega) (by omega)) ((k : Int) + 1) (fun d' hd' he => by unfold fr at he; omega)
  have gs := grown_set w r (fr d + 1) (.int .i64 ((k : Int) + 1))
  have hrw := h.lt
  have bS := (Below.refl (w.setCell ⟨r, fr d + 1, none⟩ (.int .i64 ((k : Int) + 1))).heap.size (w.setCell ⟨r, fr d + 1, none⟩ (.int .i64 ((k : Int) + 1)))).alloc (Nat.le_refl _) (.cells #[.int .i64 op, .int .i64 arg] 56)
  rw [f99] at cn zn cc
  have HWK : Hid (wrap64 ((k : Int) + 1) = (k : Int) + 1) := by show _ = _; unfold wrap64; omega
  have wd : wrap64 ((d : Int) + 1 - 1) = d := by unfold wrap64; omega
  have HS := hid hs
  have HGS := hid gs
  have HBS := hid bS
  have HH := hid h
  have HM := hid hm
  have HXV := hid hxv
  have HPAR := hid hpar
  have HML := hid hML
  have HDEP := hid hdep
  have HHH := hid (fun d' (hd' : d' < 8) => h.hh d' hd')
  clear hs gs bS h hm hxv hpar hML hdep e5 en hk hx hcv h1 h2 f99
  generalize (M.cd d).length = NL at *
  have HOP := hid hop
  clear hop
  go_enter Tryz.func106, Tryz.ntmps106
  go_wp2_with fail
  go_quiet (fail)
  have cn1 : (w.drewN nq).cell? ⟨r, 99 + d * 27 + 1, none⟩ = some (.int .i64 (k : Int)) := cn
  have zn1 : (w.drewN nq).frozen? ⟨r, 99 + d * 27 + 1, none⟩ = false := zn
  have cc1 : (w.drewN nq).cell? ⟨r, 99 + d * 27, none⟩ = some (.slice (some ⟨bc, oc, none⟩) NL cap) := cc
  have i1 : (w.drewN nq).cell? ⟨bc, oc + k * 2, none⟩ = some (.int .i64 op) := k0
  have j1 : (w.drewN nq).cell? ⟨bc, oc + k * 2 + 1, none⟩ = some (.int .i64 arg) := k1
  have a1 : (w.drewN nq).heap = w.heap /\ (w.drewN nq).os = w.os /\ (w.drewN nq).tape = w.tape /\ (w.drewN nq).output = w.output := ⟨rfl, rfl, rfl, rfl⟩
  clear cn zn cc k0 k1 c5
  generalize w.drewN nq = w1 at *
  go_wp2_with fail
  go_quiet (fail)
  have cn2 : (w1.drewN nq).cell? ⟨r, 99 + d * 27 + 1, none⟩ = some (.int .i64 (k : Int)) := cn1
  have zn2 : (w1.drewN nq).frozen? ⟨r, 99 + d * 27 + 1, none⟩ = false := zn1
  have cc2 : (w1.drewN nq).cell? ⟨r, 99 + d * 27, none⟩ = some (.slice (some ⟨bc, oc, none⟩) NL cap) := cc1
  have i2 : (w1.drewN nq).cell? ⟨bc, oc + k * 2, none⟩ = some (.int .i64 op) := i1
  have j2 : (w1.drewN nq).cell? ⟨bc, oc + k * 2 + 1, none⟩ = some (.int .i64 arg) := j1
  have a2 : (w1.drewN nq).heap = w.heap /\ (w1.drewN nq).os = w.os /\ (w1.drewN nq).tape = w.tape /\ (w1.drewN nq).output = w.output := a1
  clear cn1 zn1 cc1 i1 j1 a1
  generalize w1.drewN nq = w2 at *
  have wk := HWK.out
  clear wd
  go_wp2_with fail
  go_region
  have hop := HOP.out
  subst hop
  have eH : (w2.setCell ⟨r, 99 + d * 27 + 1, none⟩ (.int .i64 ((k : Int) + 1))).heap = (w.setCell ⟨r, fr d + 1, none⟩ (.int .i64 ((k : Int) + 1))).heap := by
    simp only [World.setCell, a2.1]; rfl
  have hA := HS.out.alike eH
  have bA := (Below.refl (w2.setCell ⟨r, 99 + d * 27 + 1, none⟩ (.int .i64 ((k : Int) + 1))).heap.size (w2.setCell ⟨r, 99 + d * 27 + 1, none⟩ (.int .i64 ((k : Int) + 1)))).alloc (Nat.le_refl _) (.cells #[.int .i64 16, .int .i64 arg] 56)
  have hX : MR (((w2.setCell ⟨r, 99 + d * 27 + 1, none⟩ (.int .i64 ((k : Int) + 1))).alloc (.cells #[.int .i64 16, .int .i64 arg] 56)).drew) r mk mv (M.setI (fr d + 1) ((k : Int) + 1)) := (hA.kept (grown_below bA none) (by simp)).alike rfl
  have gA : w.grownBy (w2.setCell ⟨r, 99 + d * 27 + 1, none⟩ (.int .i64 ((k : Int) + 1))) (some r) := ⟨a2.2.1, a2.2.2.1, a2.2.2.2, by rw [eH]; exact HGS.out.size, fun q hq hr => by rw [eH]; exact HGS.out.block q hq hr⟩
  have gX : w.grownBy (((w2.setCell ⟨r, 99 + d * 27 + 1, none⟩ (.int .i64 ((k : Int) + 1))).alloc (.cells #[.int .i64 16, .int .i64 arg] 56)).drew) (some r) := grown_alike (grown_trans gA (grown_below bA (some r))) ⟨rfl, rfl, rfl, rfl⟩
  have e1 : Mc.act m xv (M.setI (fr d + 1) ((k : Int) + 1)) d (16, arg) = (M.setI (fr d + 1) ((k : Int) + 1)).store d arg := by unfold Mc.act; simp
  have C := hid (mstore_any r d arg mk mv _ _ hX hd8)
  have HE1 := hid (HML.out.trans e1)
  rw [<- HE1.out] at C
  clear hA bA gA eH e1 hX HS HGS HBS HML HWK
  go_wp2_with fail
  refine C.out.mono ?_
  rintro e w3 ⟨rfl, h3, g3⟩
  have FIN : Hid (MDone w w3 r mk mv ML (.returned (.tuple #[]))) := ⟨rfl, h3, grown_trans gX g3⟩
  clear C h3 g3 gX
  go_wp2
  go_end0
  exact FIN.out
set_option maxRecDepth 100000 in
set_option maxHeartbeats 2000000 in
theorem mstep17 (r d k : Nat) (m : Pu.Md) (op arg : Int) (hop : op = 17) (mk mv : Value) (M : Mc) (w : World) (h : MR w r mk mv M) (hm : MdR w r mk mv m) (hpar : ∀ f ∈ m.funcs, f.params.length <= 4) (xv : Nat -> Value) (hxv : XvR w m mv xv) (hcd : CodeR w r (M.cv d) (M.cd d)) (hcl : (M.cd d).length <= maxLen)
    (hd8 : d < 8) (hdep : M.depth = (d : Int) + 1) (hk : M.next d = k) (hkl : k < (M.cd d).length) (hx : (M.cd d).getD k (0, 0) = (op, arg)) :
    Calls Tryz.prog 106 #[.pointer (some ⟨r, 0, none⟩)] w fun e w' => MDone w w' r mk mv (Mc.act m xv (M.setI (fr d + 1) ((k : Int) + 1)) d (op, arg)) e := by
  obtain ⟨ML, hML⟩ : ∃ ML, ML = Mc.act m xv (M.setI (fr d + 1) ((k : Int) + 1)) d (op, arg) := ⟨_, rfl⟩
  rw [<- hML]
  have c5 := h.ci (i := 315) (by unfold isI; omega)
  have e5 : M.ints 315 = (d : Int) + 1 := hdep
  rw [e5] at c5
  have cn := h.ci (isI_fr (i := 1) hd8 (by omega) (by omega))
  have en : M.ints (fr d + 1) = (k : Int) := hk
  rw [en] at cn
  have zn := h.fz (fr d + 1)
  have cc := h.cc hd8
  obtain ⟨ao, cap, bc, oc, hcv, h1, h2⟩ := hcd
  rw [hcv] at cc
  have wd8 : (d : Int) < 8 := by omega
  have wd1 : ¬ ((d : Int) + 1 < 1) := by omega
  have wd9 : ¬ (8 < (d : Int) + 1) := by omega
  have f99 : fr d = 99 + d * 27 := rfl
  unfold maxLen at hcl
  obtain ⟨rfl, hbr⟩ := h1 (by omega)
  obtain ⟨k0, k1⟩ := h2 k hkl
  have hbw : bc < w.heap.size := Nat.lt_trans hbr h.lt
  have wk0 : ¬ ((k : Int) < 0) := by omega
  have wkl : ¬ (((M.cd d).length : Int) <= (k : Int)) := by omega
  have wkl2 : (k : Int) < ((M.cd d).length : Int) := by omega
  rw [hx] at k0 k1
  simp only at k0 k1
  have G0 := grown_refl w (some r)
  have hs := h.setI (isI_fr (i := 1) hd8 (by omega) (by omega)) ((k : Int) + 1) (fun d' hd' he => by unfold fr at he; omega)
  have gs := grown_set w r (fr d + 1) (.int .i64 ((k : Int) + 1))
  have hrw := h.lt
  have bS := (Below.refl (w.setCell ⟨r, fr d + 1, none⟩ (.int .i64 ((k : Int) + 1))).heap.size (w.setCell ⟨r, fr d + 1, none⟩ (.int .i64 ((k : Int) + 1)))).alloc (Nat.le_refl _) (.cells #[.int .i64 op, .int .i64 arg] 56)
  rw [f99] at cn zn cc
  have HWK : Hid (wrap64 ((k : Int) + 1) = (k : Int) + 1) := by show _ = _; unfold wrap64; omega
  have wd : wrap64 ((d : Int) + 1 - 1) = d := by unfold wrap64; omega
  have HS := hid hs
  have HGS := hid gs
  have HBS := hid bS
  have HH := hid h
  have HM := hid hm
  have HXV := hid hxv
  have HPAR := hid hpar
  have HML := hid hML
  have HDEP := hid hdep
  have HHH := hid (fun d' (hd' : d' < 8) => h.hh d' hd')
  clear hs gs bS h hm hxv hpar hML hdep e5 en hk hx hcv h1 h2 f99
  generalize (M.cd d).length = NL at *
  have HOP := hid hop
  clear hop
  go_enter Tryz.func106, Tryz.ntmps106
  go_wp2_with fail
  go_quiet (fail)
  have cn1 : (w.drewN nq).cell? ⟨r, 99 + d * 27 + 1, none⟩ = some (.int .i64 (k : Int)) := cn
  have zn1 : (w.drewN nq).frozen? ⟨r, 99 + d * 27 + 1, none⟩ = false := zn
  have cc1 : (w.drewN nq).cell? ⟨r, 99 + d * 27, none⟩ = some (.slice (some ⟨bc, oc, none⟩) NL cap) := cc
  have i1 : (w.drewN nq).cell? ⟨bc, oc + k * 2, none⟩ = some (.int .i64 op) := k0
  have j1 : (w.drewN nq).cell? ⟨bc, oc + k * 2 + 1, none⟩ = some (.int .i64 arg) := k1
  have a1 : (w.drewN nq).heap = w.heap /\ (w.drewN nq).os = w.os /\ (w.drewN nq).tape = w.tape /\ (w.drewN nq).output = w.output := ⟨rfl, rfl, rfl, rfl⟩
  clear cn zn cc k0 k1 c5
  generalize w.drewN nq = w1 at *
  go_wp2_with fail
  go_quiet (fail)
  have cn2 : (w1.drewN nq).cell? ⟨r, 99 + d * 27 + 1, none⟩ = some (.int .i64 (k : Int)) := cn1
  have zn2 : (w1.drewN nq).frozen? ⟨r, 99 + d * 27 + 1, none⟩ = false := zn1
  have cc2 : (w1.drewN nq).cell? ⟨r, 99 + d * 27, none⟩ = some (.slice (some ⟨bc, oc, none⟩) NL cap) := cc1
  have i2 : (w1.drewN nq).cell? ⟨bc, oc + k * 2, none⟩ = some (.int .i64 op) := i1
  have j2 : (w1.drewN nq).cell? ⟨bc, oc + k * 2 + 1, none⟩ = some (.int .i64 arg) := j1
  have a2 : (w1.drewN nq).heap = w.heap /\ (w1.drewN nq).os = w.os /\ (w1.drewN nq).tape = w.tape /\ (w1.drewN nq).output = w.output := a1
  clear cn1 zn1 cc1 i1 j1 a1
  generalize w1.drewN nq = w2 at *
  have wk := HWK.out
  clear wd
  go_wp2_with fail
  go_region
  have hop := HOP.out
  subst hop
  have eH : (w2.setCell ⟨r, 99 + d * 27 + 1, none⟩ (.int .i64 ((k : Int) + 1))).heap = (w.setCell ⟨r, fr d + 1, none⟩ (.int .i64 ((k : Int) + 1))).heap := by
    simp only [World.setCell, a2.1]; rfl
  have hA := HS.out.alike eH
  have bA := (Below.refl (w2.setCell ⟨r, 99 + d * 27 + 1, none⟩ (.int .i64 ((k : Int) + 1))).heap.size (w2.setCell ⟨r, 99 + d * 27 + 1, none⟩ (.int .i64 ((k : Int) + 1)))).alloc (Nat.le_refl _) (.cells #[.int .i64 17, .int .i64 arg] 56)
  have hX : MR (((w2.setCell ⟨r, 99 + d * 27 + 1, none⟩ (.int .i64 ((k : Int) + 1))).alloc (.cells #[.int .i64 17, .int .i64 arg] 56)).drew) r mk mv (M.setI (fr d + 1) ((k : Int) + 1)) := (hA.kept (grown_below bA none) (by simp)).alike rfl
  have gA : w.grownBy (w2.setCell ⟨r, 99 + d * 27 + 1, none⟩ (.int .i64 ((k : Int) + 1))) (some r) := ⟨a2.2.1, a2.2.2.1, a2.2.2.2, by rw [eH]; exact HGS.out.size, fun q hq hr => by rw [eH]; exact HGS.out.block q hq hr⟩
  have gX : w.grownBy (((w2.setCell ⟨r, 99 + d * 27 + 1, none⟩ (.int .i64 ((k : Int) + 1))).alloc (.cells #[.int .i64 17, .int .i64 arg] 56)).drew) (some r) := grown_alike (grown_trans gA (grown_below bA (some r))) ⟨rfl, rfl, rfl, rfl⟩
  have e1 : Mc.act m xv (M.setI (fr d + 1) ((k : Int) + 1)) d (17, arg) = (M.setI (fr d + 1) ((k : Int) + 1)).has d arg := by unfold Mc.act; simp
  have C := hid (mhas_any r d arg mk mv _ _ hX hd8)
  have HE1 := hid (HML.out.trans e1)
  rw [<- HE1.out] at C
  clear hA bA gA eH e1 hX HS HGS HBS HML HWK
  go_wp2_with fail
  refine C.out.mono ?_
  rintro e w3 ⟨rfl, h3, g3⟩
  have FIN : Hid (MDone w w3 r mk mv ML (.returned (.tuple #[]))) := ⟨rfl, h3, grown_trans gX g3⟩
  clear C h3 g3 gX
  go_wp2
  go_end0
  exact FIN.out
end Go.Proofs.YtjamgmbdilkbcaaGreat
