import Derived.Test.YtjamgmbdilkbcaaGreatLotLedgers15
/- The document's after: Move. -/
namespace Go.Proofs.YtjamgmbdilkbcaaGreat
open Go.RowKit

theorem spots_set (pl : List Int) (full : List Bool) (n : Nat) (b : Bool) (h1 : n < pl.length) (h2 : n < full.length) : (spots pl full).take n ++ [spot (pl.getD n 0) b] ++ (spots pl full).drop (n + 1) = spots pl (full.set n b) := by
  have hl : (spots pl full).length = min pl.length full.length := by simp [spots]
  have hl2 : (spots pl (full.set n b)).length = min pl.length full.length := by simp [spots]
  have e : (spots pl full).take n ++ [spot (pl.getD n 0) b] ++ (spots pl full).drop (n + 1) = (spots pl full).set n (spot (pl.getD n 0) b) := by
    rw [List.set_eq_take_append_cons_drop, if_pos (by omega)]
    simp
  rw [e]
  apply List.ext_getElem
  · simp [spots]
  · intro i h3 h4
    simp only [spots, List.getElem_set, List.getElem_zipWith]
    by_cases hi : n = i
    · subst hi
      rw [if_pos rfl, if_pos rfl, List.getD_eq_getElem?_getD, List.getElem?_eq_getElem h1]
      rfl
    · rw [if_neg hi, if_neg hi]
set_option maxRecDepth 100000 in
set_option maxHeartbeats 4000000 in
theorem rafter9_any (m : Pu.Md) (f : Pu.Fn) (a : Nat) (t : Fl.S) (mk mv : Value) (x : FV) (w : World) (hm : MdR w w.heap.size mk mv m) (hf : FnR w w.heap.size x f) (mo : MdOk m) (fo : FnOk m f) (fl : FnLow m f) (so : StOk m t) (ha : a < f.code.length) (hpl : (f.code.getD a (0, 0)).1 = 9) :
    Calls Tryz.prog 74 #[.agg #[mk, mv], .agg #[x.p, x.r, x.l, x.c], PV a f t] w fun e w' => AfterOut w w' m f a (f.code.getD a (0, 0)) t e := by
  obtain ⟨a1, c1, rfl⟩ := hm.k.shape
  obtain ⟨a2, c2, rfl⟩ := hm.v.shape
  obtain ⟨x1, y1, x2, y2, x3, y3, x4, y4, rfl⟩ := hf.shape
  have hlp : Low (Fl.places f) := fun k hk => by have := fl.pl k hk; have := mo.nk; omega
  have hls : Low t.stk := fun k hk => by have := so.kinds k hk; have := mo.nk; omega
  have hop := fo.op a ha
  have harg := fl.arg a ha
  have hkd := fl.kinds a ha
  have hcl := hf.nc
  unfold maxLen at hcl
  obtain ⟨ac, cc', bc, oc, hcv, h1, h2⟩ := hf.c
  simp only [Value.slice.injEq, true_and] at hcv
  obtain ⟨rfl, rfl⟩ := hcv
  obtain ⟨rfl, hbB⟩ := h1 (by omega)
  obtain ⟨k0, k1⟩ := h2 a ha
  clear h1 h2
  obtain ⟨SS, hSS⟩ : ∃ SS, SS = str t.stk := ⟨_, rfl⟩
  obtain ⟨SP, hSP⟩ : ∃ SP, SP = bs (spots (Fl.places f) t.full) := ⟨_, rfl⟩
  unfold PV
  rw [<- hSS, <- hSP]
  have HSS := hid hSS
  have HSP := hid hSP
  clear hSS hSP
  obtain ⟨W0, hW0⟩ : ∃ W0, W0 = (((w.alloc (.cells #[.slice a1 m.kinds.length c1, .slice a2 m.funcs.length c2] 38)).alloc (.cells #[.slice x1 f.params.length y1, .slice x2 f.results.length y2, .slice x3 f.locals.length y3, .slice (some ⟨bc, oc, none⟩) f.code.length y4] 62)).alloc (.cells #[.int .i64 a, .string SS, .string SP] 158)).alloc (.cells #[.int .i64 0, .string ⟨#[]⟩, .string ⟨#[]⟩] 158) := ⟨_, rfl⟩
  have bl0 : Below w.heap.size w W0 := by rw [hW0]; exact ((((Below.refl w.heap.size w).alloc (Nat.le_refl _) _).alloc (by simp) _).alloc (by simp; omega) _).alloc (by simp; omega) _
  have sz0 : W0.heap.size = w.heap.size + 4 := by rw [hW0]; simp
  have mb0 : F2 W0 w.heap.size 38 (.slice a1 m.kinds.length c1) (.slice a2 m.funcs.length c2) := by
    rw [hW0]
    exact F2.kept (F2.kept (heap_alloc2_old w _ _) (World.grownBy_alloc _ _ none) (by simp)) (World.grownBy_alloc _ _ none) (by simp)
  have fb0 : F4 W0 (w.heap.size + 1) 62 (.slice x1 f.params.length y1) (.slice x2 f.results.length y2) (.slice x3 f.locals.length y3) (.slice (some ⟨bc, oc, none⟩) f.code.length y4) := by
    rw [hW0]
    exact F4.kept (F4.kept (heap_alloc2_new w _ _) (World.grownBy_alloc _ _ none) (by simp)) (World.grownBy_alloc _ _ none) (by simp)
  have pb0 : F3 W0 (w.heap.size + 2) 158 (.int .i64 a) (.string SS) (.string SP) := by
    have h := heap_alloc2_old ((w.alloc (.cells #[.slice a1 m.kinds.length c1, .slice a2 m.funcs.length c2] 38)).alloc (.cells #[.slice x1 f.params.length y1, .slice x2 f.results.length y2, .slice x3 f.locals.length y3, .slice (some ⟨bc, oc, none⟩) f.code.length y4] 62)) (.cells #[.int .i64 a, .string SS, .string SP] 158) (.cells #[.int .i64 0, .string ⟨#[]⟩, .string ⟨#[]⟩] 158)
    simp only [World.size_alloc] at h
    rw [hW0]
    exact h
  have rb0 : F3 W0 (w.heap.size + 3) 158 (.int .i64 0) (.string ⟨#[]⟩) (.string ⟨#[]⟩) := by
    have h := heap_alloc2_new ((w.alloc (.cells #[.slice a1 m.kinds.length c1, .slice a2 m.funcs.length c2] 38)).alloc (.cells #[.slice x1 f.params.length y1, .slice x2 f.results.length y2, .slice x3 f.locals.length y3, .slice (some ⟨bc, oc, none⟩) f.code.length y4] 62)) (.cells #[.int .i64 a, .string SS, .string SP] 158) (.cells #[.int .i64 0, .string ⟨#[]⟩, .string ⟨#[]⟩] 158)
    simp only [World.size_alloc] at h
    rw [hW0]
    exact h
  have e0 := (bl0.cell (p := ⟨bc, oc + a * 2, none⟩) hbB).trans k0
  have e1 := (bl0.cell (p := ⟨bc, oc + a * 2 + 1, none⟩) hbB).trans k1
  have HM := hid ((hm.below bl0).wide bl0.size)
  have HF := hid ((hf.below bl0).wide bl0.size)
  have HE := hid hW0
  rw [hW0] at e0 e1
  generalize f.code.getD a (0, 0) = xx at *
  obtain ⟨op, arg⟩ := xx
  simp only at e0 e1 hop harg hkd hpl
  have HOP := hid hpl
  clear hpl
  simp only
  clear k0 k1 hW0 hm hf
  go_enter Tryz.func74, Tryz.ntmps74
  go_wp2_with fail
  rw [<- HE.out]
  have bA := (Below.refl W0.heap.size W0).alloc (Nat.le_refl _) (.cells #[.int .i64 op, .int .i64 arg] 56)
  have A0 : AB w (W0.alloc (.cells #[.int .i64 op, .int .i64 arg] 56)) m f w.heap.size (w.heap.size + 1) (w.heap.size + 1 + 1) (w.heap.size + 1 + 1 + 1) (w.heap.size + 1 + 1 + 1 + 1) _ _ ⟨.slice x1 f.params.length y1, .slice x2 f.results.length y2, .slice x3 f.locals.length y3, .slice (some ⟨bc, oc, none⟩) f.code.length y4⟩ a SS SP op arg :=
    ⟨(bA.block _ mb0.lt).trans mb0, (bA.block _ fb0.lt).trans fb0, (bA.block _ pb0.lt).trans pb0, (bA.block _ rb0.lt).trans rb0, by have h := heap_alloc_new W0 (.cells #[.int .i64 op, .int .i64 arg] 56); rw [sz0] at h; exact h, (HM.out.below bA).wide bA.size, (HF.out.below bA).wide bA.size, bl0.trans (bA.mono bl0.size)⟩
  clear HE HM HF mb0 fb0 pb0 rb0 bA sz0 bl0 e0 e1 hbB
  generalize w.heap.size + 1 + 1 + 1 + 1 = qx at A0 ⊢
  have hqr : w.heap.size <= w.heap.size + 1 + 1 + 1 := by omega
  generalize w.heap.size + 1 + 1 + 1 = qr at A0 hqr ⊢
  generalize w.heap.size + 1 + 1 = qp at A0 ⊢
  generalize w.heap.size + 1 = qf at A0 ⊢
  generalize W0.alloc (.cells #[.int .i64 op, .int .i64 arg] 56) = W1 at A0 ⊢
  refine (rshape_any m _ _ op arg W1 A0.hm hop.1 harg (fun h => by have := hop.2.2 h; omega) mo.fn).mono ?_
  rintro e w2 ⟨rfl, hb2⟩
  have A2 := A0.below hb2
  clear A0 hb2
  have p0 := A2.pb.c0
  have p1 := A2.pb.c1
  have p2 := A2.pb.c2
  have f0 := A2.fb.c0
  have f1 := A2.fb.c1
  have f2 := A2.fb.c2
  have f3 := A2.fb.c3
  simp only at f0 f1 f2 f3
  obtain ⟨TK, hTK⟩ : ∃ TK, TK = str (shapeS m (op, arg)).1 := ⟨_, rfl⟩
  obtain ⟨PU, hPU⟩ : ∃ PU, PU = str (shapeS m (op, arg)).2.1 := ⟨_, rfl⟩
  obtain ⟨PL, hPL⟩ : ∃ PL, PL = (shapeS m (op, arg)).2.2 := ⟨_, rfl⟩
  rw [<- hTK, <- hPU, <- hPL]
  have HTK := hid hTK
  have HPU := hid hPU
  have HPL := hid hPL
  clear hTK hPU hPL
  go_wp2_with fail
  refine (rplaces_any f _ w2 A2.hf fo.np hlp).mono ?_
  rintro e w3 ⟨rfl, hb3⟩
  have A3 := A2.below hb3
  clear A2 hb3 p0 p1 p2 f0 f1 f2 f3
  have x0 := A3.xb.c0
  have x1' := A3.xb.c1
  have p0 := A3.pb.c0
  have p1 := A3.pb.c1
  have p2 := A3.pb.c2
  have hSl : SS.size = t.stk.length := by rw [HSS.out, str_size]
  obtain ⟨AL, hAL⟩ : ∃ AL, AL = str (Fl.places f) := ⟨_, rfl⟩
  rw [<- hAL]
  have HAL := hid hAL
  clear hAL
  have hpl := HOP.out
  subst hpl
  clear HOP
  have hs0 : shapeS m (9, arg) = ([], [], false) := by simp [shapeS]
  have eTK : TK = ⟨#[]⟩ := by rw [HTK.out, hs0]; rfl
  have ePU : PU = ⟨#[]⟩ := by rw [HPU.out, hs0]; rfl
  have ePL : PL = false := by rw [HPL.out, hs0]
  subst eTK ePU ePL
  have hspl : SP.size = (Fl.places f).length := by rw [HSP.out, bs_size]; unfold spots; rw [List.length_zipWith, so.full]; have := fo.np; omega
  have hall : AL.size = (Fl.places f).length := by rw [HAL.out, str_size]
  have hnp := fo.np
  clear HTK HPU HPL hs0
  have m0 := A3.mb.c0
  have m1 := A3.mb.c1
  have lqm := A3.mb.lt
  have lqx := A3.xb.lt
  have hn0 : Low [] := fun k hk => by simp at hk
  obtain ⟨h1, h2⟩ := hop.2.1 (.inr (.inl rfl))
  obtain ⟨n, rfl⟩ : ∃ n : Nat, arg = n := ⟨arg.toNat, by omega⟩
  have hn : n < (Fl.places f).length := by omega
  have hnS : n < SP.size := by omega
  have hnA : n < AL.size := by omega
  have hk6 := fl.pl ((Fl.places f).getD n 0) (by rw [List.getD_eq_getElem?_getD, List.getElem?_eq_getElem hn]; exact List.getElem_mem hn)
  have hnk := mo.nk
  have isp : SP[n]'hnS = spot ((Fl.places f).getD n 0) (t.full.getD n false) := spots_get _ _ n hn (by rw [so.full]; omega) SP HSP.out hnS
  have ial : AL[n]'hnA = lt ((Fl.places f).getD n 0) := str_get _ n hn AL HAL.out hnA
  have exA : AL.extract n (n + 1) = str [(Fl.places f).getD n 0] := str_one _ n hn AL HAL.out
  have nw : IntKind.i64.wrap ((n : Int) + 1) = (n : Int) + 1 := IntWalk.i64_in _ (by omega)
  have HAF0 := hid (after_move m f n t so.len)
  obtain ⟨ST, hST⟩ : ∃ ST, ST = bs (spots (Fl.places f) (t.full.set n false)) := ⟨_, rfl⟩
  have HST := hid hST
  have C2 : ∀ w', Calls Tryz.prog 100 #[.string SP, .int .i64 n, .string ⟨#[45]⟩] w' fun e w'' => e = .returned (.string ST) /\ Alike w' w'' := by
    intro w'
    have hlen : (spots (Fl.places f) t.full).length = (Fl.places f).length := by unfold spots; rw [List.length_zipWith, so.full]; omega
    have h := rturn_any (spots (Fl.places f) t.full) [45] n w' (by omega) (by omega) (by simp)
    rw [show ([45] : List UInt8) = [spot ((Fl.places f).getD n 0) false] from rfl, spots_set _ _ _ _ hn (by rw [so.full]; omega), <- hST, <- HSP.out] at h
    exact h
  have D2 := hid C2
  clear C2 hST
  obtain ⟨EX, hEX⟩ : ∃ EX, EX = str [(Fl.places f).getD n 0] := ⟨_, rfl⟩
  rw [<- hEX] at exA
  have HEY := hid hEX
  clear hEX
  generalize (Fl.places f).getD n 0 = kk at *
  cases hbit : t.full.getD n false with
  | false =>
    rw [hbit] at isp HAF0
    have hnone : Fl.after m f (9, (n : Int)) t = none := by rw [HAF0.out]; simp
    have vsp : ((SP[n]'hnS).toNat : Int) = 45 := by rw [isp]; rfl
    clear HAF0 isp ial
    go_wp2_with fail
    refine (D2.out w3).mono ?_
    rintro e w5 ⟨rfl, hal⟩
    have A4 := A3.below (hal.below _)
    clear A3 p0 p1 p2 x0 x1' m0 m1 lqm lqx hal D2
    have p1 := A4.pb.c1
    go_wp2_with fail
    rw [HSS.out]
    refine (rends_any t.stk ([] : List Int) w5 (by have := so.len; omega) (by simp) hls hn0).mono ?_
    rintro e w9 ⟨rfl, rfl⟩
    have q0 := A4.rb.c0
    have q1 := A4.rb.c1
    have q2 := A4.rb.c2
    have z0 := A4.rb.fz 0
    have z1 := A4.rb.fz 1
    have z2 := A4.rb.fz 2
    have o0 := A4.pb.c0
    have o1 := A4.pb.c1
    have o2 := A4.pb.c2
    obtain ⟨rf, rbl⟩ := A4.res hqr SS SP
    have FIN := hid (after_no (a := a) (s1 := SS) (s2 := SP) hnone rbl)
    have j0 := rf.c0
    have j1 := rf.c1
    have j2 := rf.c2
    clear rf rbl
    generalize decide (([] : List Int).length <= t.stk.length /\ t.stk.drop (t.stk.length - ([] : List Int).length) = ([] : List Int)) = RR
    cases RR
    all_goals
      go_wp2
      refine bodyPost_ret (v := .tuple #[.agg #[.int .i64 a, .string SS, .string SP], .bool false]) (by simp [results, Tryz.results74, go_sem, j0, j1, j2]) rfl FIN.out
  | true =>
    rw [hbit] at isp HAF0
    have vsp : ((SP[n]'hnS).toNat : Int) = 48 + kk := by rw [isp]; exact lt_val kk (by omega)
    have hne : ¬ (48 + kk = 45) := by omega
    have hne2 : (48 + kk == 45) = false := by simpa using hne
    have hne3 : (48 + kk != 45) = true := by simpa using hne
    have HAF : Hid (Fl.after m f (9, (n : Int)) t = finS [] [kk] (t.full.set n false) t) := by show _ = _; rw [HAF0.out]; simp
    clear HAF0 isp ial
    go_wp2_with fail
    refine (D2.out w3).mono ?_
    rintro e w5 ⟨rfl, hal⟩
    have A4 := A3.below (hal.below _)
    clear A3 p0 p1 p2 x0 x1' m0 m1 lqm lqx hal D2
    have p1 := A4.pb.c1
    go_wp2_with fail
    rw [HSS.out]
    refine (rends_any t.stk [] w5 (by have := so.len; omega) (by simp) hls hn0).mono ?_
    rintro e w9 ⟨rfl, rfl⟩
    rw [show decide (([] : List Int).length <= t.stk.length /\ t.stk.drop (t.stk.length - ([] : List Int).length) = []) = true from by simp]
    have q0 := A4.rb.c0
    have q1 := A4.rb.c1
    have q2 := A4.rb.c2
    have z0 := A4.rb.fz 0
    have z1 := A4.rb.fz 1
    have z2 := A4.rb.fz 2
    have o0 := A4.pb.c0
    have o1 := A4.pb.c1
    have o2 := A4.pb.c2
    have ex : SS.extract 0 t.stk.length = SS := by rw [HSS.out, str_extract, List.take_of_length_le (Nat.le_refl _)]; rfl
    have hex : EX.size = 1 := by rw [HEY.out, str_size]; rfl
    obtain ⟨rf, rbl⟩ := A4.res hqr (SS ++ EX) ST
    have FIN : AfterOut w (((w9.setCell ⟨qr, 0, none⟩ (.int .i64 a)).setCell ⟨qr, 1, none⟩ (.string (SS ++ EX))).setCell ⟨qr, 2, none⟩ (.string ST)) m f a (9, (n : Int)) t (.returned (.tuple #[.agg #[.int .i64 a, .string (SS ++ EX), .string ST], .bool (decide (t.stk.length + 1 <= 16))])) := by
      have h := after_fin (a := a) HAF.out (by simp) rbl
      rw [<- HST.out] at h
      have h2 : str (t.stk.take (t.stk.length - ([] : List Int).length) ++ [kk]) = SS ++ EX := by rw [HSS.out, HEY.out, str_append]; simp
      rw [h2] at h
      exact h
    have FIN := hid FIN
    have hsl16 := so.len
    have j0 := rf.c0
    have j1 := rf.c1
    have j2 := rf.c2
    clear HAF rf rbl
    have t1 : (9223372036854775807 < t.stk.length + 1) = False := by simp; omega
    have HB : Hid (decide ((t.stk.length : Int) + 1 <= 16) = decide (t.stk.length + 1 <= 16)) := decide_eq_decide.2 (by omega)
    generalize decide (t.stk.length + 1 <= 16) = BB at *
    go_wp2
    refine bodyPost_ret (v := .tuple #[.agg #[.int .i64 a, .string (SS ++ EX), .string ST], .bool BB]) (by simp [results, Tryz.results74, go_sem, j0, j1, j2, HB.out]) rfl FIN.out
end Go.Proofs.YtjamgmbdilkbcaaGreat

/- The document's after: Keep. -/
namespace Go.Proofs.YtjamgmbdilkbcaaGreat
open Go.RowKit

set_option maxRecDepth 100000 in
set_option maxHeartbeats 4000000 in
theorem rafter10_any (m : Pu.Md) (f : Pu.Fn) (a : Nat) (t : Fl.S) (mk mv : Value) (x : FV) (w : World) (hm : MdR w w.heap.size mk mv m) (hf : FnR w w.heap.size x f) (mo : MdOk m) (fo : FnOk m f) (fl : FnLow m f) (so : StOk m t) (ha : a < f.code.length) (hpl : (f.code.getD a (0, 0)).1 = 10) :
    Calls Tryz.prog 74 #[.agg #[mk, mv], .agg #[x.p, x.r, x.l, x.c], PV a f t] w fun e w' => AfterOut w w' m f a (f.code.getD a (0, 0)) t e := by
  obtain ⟨a1, c1, rfl⟩ := hm.k.shape
  obtain ⟨a2, c2, rfl⟩ := hm.v.shape
  obtain ⟨x1, y1, x2, y2, x3, y3, x4, y4, rfl⟩ := hf.shape
  have hlp : Low (Fl.places f) := fun k hk => by have := fl.pl k hk; have := mo.nk; omega
  have hls : Low t.stk := fun k hk => by have := so.kinds k hk; have := mo.nk; omega
  have hop := fo.op a ha
  have harg := fl.arg a ha
  have hkd := fl.kinds a ha
  have hcl := hf.nc
  unfold maxLen at hcl
  obtain ⟨ac, cc', bc, oc, hcv, h1, h2⟩ := hf.c
  simp only [Value.slice.injEq, true_and] at hcv
  obtain ⟨rfl, rfl⟩ := hcv
  obtain ⟨rfl, hbB⟩ := h1 (by omega)
  obtain ⟨k0, k1⟩ := h2 a ha
  clear h1 h2
  obtain ⟨SS, hSS⟩ : ∃ SS, SS = str t.stk := ⟨_, rfl⟩
  obtain ⟨SP, hSP⟩ : ∃ SP, SP = bs (spots (Fl.places f) t.full) := ⟨_, rfl⟩
  unfold PV
  rw [<- hSS, <- hSP]
  have HSS := hid hSS
  have HSP := hid hSP
  clear hSS hSP
  obtain ⟨W0, hW0⟩ : ∃ W0, W0 = (((w.alloc (.cells #[.slice a1 m.kinds.length c1, .slice a2 m.funcs.length c2] 38)).alloc (.cells #[.slice x1 f.params.length y1, .slice x2 f.results.length y2, .slice x3 f.locals.length y3, .slice (some ⟨bc, oc, none⟩) f.code.length y4] 62)).alloc (.cells #[.int .i64 a, .string SS, .string SP] 158)).alloc (.cells #[.int .i64 0, .string ⟨#[]⟩, .string ⟨#[]⟩] 158) := ⟨_, rfl⟩
  have bl0 : Below w.heap.size w W0 := by rw [hW0]; exact ((((Below.refl w.heap.size w).alloc (Nat.le_refl _) _).alloc (by simp) _).alloc (by simp; omega) _).alloc (by simp; omega) _
  have sz0 : W0.heap.size = w.heap.size + 4 := by rw [hW0]; simp
  have mb0 : F2 W0 w.heap.size 38 (.slice a1 m.kinds.length c1) (.slice a2 m.funcs.length c2) := by
    rw [hW0]
    exact F2.kept (F2.kept (heap_alloc2_old w _ _) (World.grownBy_alloc _ _ none) (by simp)) (World.grownBy_alloc _ _ none) (by simp)
  have fb0 : F4 W0 (w.heap.size + 1) 62 (.slice x1 f.params.length y1) (.slice x2 f.results.length y2) (.slice x3 f.locals.length y3) (.slice (some ⟨bc, oc, none⟩) f.code.length y4) := by
    rw [hW0]
    exact F4.kept (F4.kept (heap_alloc2_new w _ _) (World.grownBy_alloc _ _ none) (by simp)) (World.grownBy_alloc _ _ none) (by simp)
  have pb0 : F3 W0 (w.heap.size + 2) 158 (.int .i64 a) (.string SS) (.string SP) := by
    have h := heap_alloc2_old ((w.alloc (.cells #[.slice a1 m.kinds.length c1, .slice a2 m.funcs.length c2] 38)).alloc (.cells #[.slice x1 f.params.length y1, .slice x2 f.results.length y2, .slice x3 f.locals.length y3, .slice (some ⟨bc, oc, none⟩) f.code.length y4] 62)) (.cells #[.int .i64 a, .string SS, .string SP] 158) (.cells #[.int .i64 0, .string ⟨#[]⟩, .string ⟨#[]⟩] 158)
    simp only [World.size_alloc] at h
    rw [hW0]
    exact h
  have rb0 : F3 W0 (w.heap.size + 3) 158 (.int .i64 0) (.string ⟨#[]⟩) (.string ⟨#[]⟩) := by
    have h := heap_alloc2_new ((w.alloc (.cells #[.slice a1 m.kinds.length c1, .slice a2 m.funcs.length c2] 38)).alloc (.cells #[.slice x1 f.params.length y1, .slice x2 f.results.length y2, .slice x3 f.locals.length y3, .slice (some ⟨bc, oc, none⟩) f.code.length y4] 62)) (.cells #[.int .i64 a, .string SS, .string SP] 158) (.cells #[.int .i64 0, .string ⟨#[]⟩, .string ⟨#[]⟩] 158)
    simp only [World.size_alloc] at h
    rw [hW0]
    exact h
  have e0 := (bl0.cell (p := ⟨bc, oc + a * 2, none⟩) hbB).trans k0
  have e1 := (bl0.cell (p := ⟨bc, oc + a * 2 + 1, none⟩) hbB).trans k1
  have HM := hid ((hm.below bl0).wide bl0.size)
  have HF := hid ((hf.below bl0).wide bl0.size)
  have HE := hid hW0
  rw [hW0] at e0 e1
  generalize f.code.getD a (0, 0) = xx at *
  obtain ⟨op, arg⟩ := xx
  simp only at e0 e1 hop harg hkd hpl
  have HOP := hid hpl
  clear hpl
  simp only
  clear k0 k1 hW0 hm hf
  go_enter Tryz.func74, Tryz.ntmps74
  go_wp2_with fail
  rw [<- HE.out]
  have bA := (Below.refl W0.heap.size W0).alloc (Nat.le_refl _) (.cells #[.int .i64 op, .int .i64 arg] 56)
  have A0 : AB w (W0.alloc (.cells #[.int .i64 op, .int .i64 arg] 56)) m f w.heap.size (w.heap.size + 1) (w.heap.size + 1 + 1) (w.heap.size + 1 + 1 + 1) (w.heap.size + 1 + 1 + 1 + 1) _ _ ⟨.slice x1 f.params.length y1, .slice x2 f.results.length y2, .slice x3 f.locals.length y3, .slice (some ⟨bc, oc, none⟩) f.code.length y4⟩ a SS SP op arg :=
    ⟨(bA.block _ mb0.lt).trans mb0, (bA.block _ fb0.lt).trans fb0, (bA.block _ pb0.lt).trans pb0, (bA.block _ rb0.lt).trans rb0, by have h := heap_alloc_new W0 (.cells #[.int .i64 op, .int .i64 arg] 56); rw [sz0] at h; exact h, (HM.out.below bA).wide bA.size, (HF.out.below bA).wide bA.size, bl0.trans (bA.mono bl0.size)⟩
  clear HE HM HF mb0 fb0 pb0 rb0 bA sz0 bl0 e0 e1 hbB
  generalize w.heap.size + 1 + 1 + 1 + 1 = qx at A0 ⊢
  have hqr : w.heap.size <= w.heap.size + 1 + 1 + 1 := by omega
  generalize w.heap.size + 1 + 1 + 1 = qr at A0 hqr ⊢
  generalize w.heap.size + 1 + 1 = qp at A0 ⊢
  generalize w.heap.size + 1 = qf at A0 ⊢
  generalize W0.alloc (.cells #[.int .i64 op, .int .i64 arg] 56) = W1 at A0 ⊢
  refine (rshape_any m _ _ op arg W1 A0.hm hop.1 harg (fun h => by have := hop.2.2 h; omega) mo.fn).mono ?_
  rintro e w2 ⟨rfl, hb2⟩
  have A2 := A0.below hb2
  clear A0 hb2
  have p0 := A2.pb.c0
  have p1 := A2.pb.c1
  have p2 := A2.pb.c2
  have f0 := A2.fb.c0
  have f1 := A2.fb.c1
  have f2 := A2.fb.c2
  have f3 := A2.fb.c3
  simp only at f0 f1 f2 f3
  obtain ⟨TK, hTK⟩ : ∃ TK, TK = str (shapeS m (op, arg)).1 := ⟨_, rfl⟩
  obtain ⟨PU, hPU⟩ : ∃ PU, PU = str (shapeS m (op, arg)).2.1 := ⟨_, rfl⟩
  obtain ⟨PL, hPL⟩ : ∃ PL, PL = (shapeS m (op, arg)).2.2 := ⟨_, rfl⟩
  rw [<- hTK, <- hPU, <- hPL]
  have HTK := hid hTK
  have HPU := hid hPU
  have HPL := hid hPL
  clear hTK hPU hPL
  go_wp2_with fail
  refine (rplaces_any f _ w2 A2.hf fo.np hlp).mono ?_
  rintro e w3 ⟨rfl, hb3⟩
  have A3 := A2.below hb3
  clear A2 hb3 p0 p1 p2 f0 f1 f2 f3
  have x0 := A3.xb.c0
  have x1' := A3.xb.c1
  have p0 := A3.pb.c0
  have p1 := A3.pb.c1
  have p2 := A3.pb.c2
  have hSl : SS.size = t.stk.length := by rw [HSS.out, str_size]
  obtain ⟨AL, hAL⟩ : ∃ AL, AL = str (Fl.places f) := ⟨_, rfl⟩
  rw [<- hAL]
  have HAL := hid hAL
  clear hAL
  have hpl := HOP.out
  subst hpl
  clear HOP
  have hs0 : shapeS m (10, arg) = ([], [], false) := by simp [shapeS]
  have eTK : TK = ⟨#[]⟩ := by rw [HTK.out, hs0]; rfl
  have ePU : PU = ⟨#[]⟩ := by rw [HPU.out, hs0]; rfl
  have ePL : PL = false := by rw [HPL.out, hs0]
  subst eTK ePU ePL
  have hspl : SP.size = (Fl.places f).length := by rw [HSP.out, bs_size]; unfold spots; rw [List.length_zipWith, so.full]; have := fo.np; omega
  have hall : AL.size = (Fl.places f).length := by rw [HAL.out, str_size]
  have hnp := fo.np
  clear HTK HPU HPL hs0
  have m0 := A3.mb.c0
  have m1 := A3.mb.c1
  have lqm := A3.mb.lt
  have lqx := A3.xb.lt
  have hn0 : Low [] := fun k hk => by simp at hk
  obtain ⟨h1, h2⟩ := hop.2.1 (.inr (.inr rfl))
  obtain ⟨n, rfl⟩ : ∃ n : Nat, arg = n := ⟨arg.toNat, by omega⟩
  have hn : n < (Fl.places f).length := by omega
  have hnS : n < SP.size := by omega
  have hnA : n < AL.size := by omega
  have hk6 := fl.pl ((Fl.places f).getD n 0) (by rw [List.getD_eq_getElem?_getD, List.getElem?_eq_getElem hn]; exact List.getElem_mem hn)
  have hnk := mo.nk
  have isp : SP[n]'hnS = spot ((Fl.places f).getD n 0) (t.full.getD n false) := spots_get _ _ n hn (by rw [so.full]; omega) SP HSP.out hnS
  have ial : AL[n]'hnA = lt ((Fl.places f).getD n 0) := str_get _ n hn AL HAL.out hnA
  have exA : AL.extract n (n + 1) = str [(Fl.places f).getD n 0] := str_one _ n hn AL HAL.out
  have nw : IntKind.i64.wrap ((n : Int) + 1) = (n : Int) + 1 := IntWalk.i64_in _ (by omega)
  have HAF0 := hid (after_keep m f n t so.len)
  obtain ⟨ST, hST⟩ : ∃ ST, ST = bs (spots (Fl.places f) (t.full.set n true)) := ⟨_, rfl⟩
  have HST := hid hST
  obtain ⟨EX, hEX⟩ : ∃ EX, EX = str [(Fl.places f).getD n 0] := ⟨_, rfl⟩
  have C2 : ∀ w', Calls Tryz.prog 100 #[.string SP, .int .i64 n, .string EX] w' fun e w'' => e = .returned (.string ST) /\ Alike w' w'' := by
    intro w'
    have hlen : (spots (Fl.places f) t.full).length = (Fl.places f).length := by unfold spots; rw [List.length_zipWith, so.full]; omega
    have h := rturn_any (spots (Fl.places f) t.full) [spot ((Fl.places f).getD n 0) true] n w' (by omega) (by omega) (by simp)
    rw [spots_set _ _ _ _ hn (by rw [so.full]; omega), <- hST, <- HSP.out, show bs [spot ((Fl.places f).getD n 0) true] = EX from hEX.symm] at h
    exact h
  have D2 := hid C2
  clear C2 hST
  rw [<- hEX] at exA
  have HEY := hid hEX
  clear hEX
  obtain ⟨VV, hVV⟩ : ∃ VV : Int, VV = ((spot ((Fl.places f).getD n 0) (t.full.getD n false)).toNat : Int) := ⟨_, rfl⟩
  have vsp : ((SP[n]'hnS).toNat : Int) = VV := by rw [isp, hVV]
  obtain ⟨CL, hCL⟩ : ∃ CL, CL = Fl.canLose m f t n := ⟨_, rfl⟩
  have hMM : MdR w3.drew w3.drew.heap.size _ _ m := (A3.below ((Below.refl _ _).drew)).hm
  have D1 : Calls Tryz.prog 98 #[.agg #[.slice a1 m.kinds.length c1, .slice a2 m.funcs.length c2], .int .u8 VV] w3.drew fun e w' => e = .returned (.bool CL) /\ Below w3.drew.heap.size w3.drew w' := by
    rw [hVV, hCL]
    exact rfree_any m _ _ _ _ _ hMM hk6 hnk
  have D1 := hid D1
  have HCL := hid hCL
  have hlk : Low [(Fl.places f).getD n 0] := fun k hk => by simp only [List.mem_singleton] at hk; rw [hk]; omega
  generalize (Fl.places f).getD n 0 = kk at *
  clear isp ial hVV hCL
  go_wp2_with fail
  go_region_held3 (fun w' => w'.cell? ⟨qx, 1, none⟩ = some (.int .i64 n) /\ w'.cell? ⟨w.heap.size, 0, none⟩ = some (.slice a1 m.kinds.length c1) /\ w'.cell? ⟨w.heap.size, 1, none⟩ = some (.slice a2 m.funcs.length c2))
    (first | exact ⟨x1', m0, m1⟩ | exact ⟨(hb4.cell (p := ⟨qx, 1, none⟩) lqx).trans x1', (hb4.cell (p := ⟨w.heap.size, 0, none⟩) lqm).trans m0, (hb4.cell (p := ⟨w.heap.size, 1, none⟩) lqm).trans m1⟩)
    ((go_at_call 98; with_reducible refine D1.out.mono ?_; rintro e w5 ⟨rfl, hb4⟩))
  have A4 := A3.below (((Below.refl _ _).drew).trans hb4)
  clear A3 p0 p1 p2 x0 x1' m0 m1 lqm lqx hb4 D1 hMM
  have x1' := A4.xb.c1
  go_wp2_with fail
  refine (D2.out w5).mono ?_
  rintro e w6 ⟨rfl, hal⟩
  have A5 := A4.below (hal.below _)
  clear A4 x1' hal D2
  have p1 := A5.pb.c1
  cases hcl2 : CL with
  | false =>
    have hnone : Fl.after m f (10, (n : Int)) t = none := by rw [HAF0.out, <- HCL.out, hcl2]; simp
    clear HAF0
    go_wp2_with fail
    rw [HSS.out, HEY.out]
    refine (rends_any t.stk [kk] w6 (by have := so.len; omega) (by simp) hls hlk).mono ?_
    rintro e w9 ⟨rfl, rfl⟩
    have q0 := A5.rb.c0
    have q1 := A5.rb.c1
    have q2 := A5.rb.c2
    have z0 := A5.rb.fz 0
    have z1 := A5.rb.fz 1
    have z2 := A5.rb.fz 2
    have o0 := A5.pb.c0
    have o1 := A5.pb.c1
    have o2 := A5.pb.c2
    obtain ⟨rf, rbl⟩ := A5.res hqr SS SP
    have FIN := hid (after_no (a := a) (s1 := SS) (s2 := SP) hnone rbl)
    have j0 := rf.c0
    have j1 := rf.c1
    have j2 := rf.c2
    clear rf rbl
    generalize decide ([kk].length <= t.stk.length /\ t.stk.drop (t.stk.length - [kk].length) = [kk]) = RR
    cases RR
    all_goals
      go_wp2
      refine bodyPost_ret (v := .tuple #[.agg #[.int .i64 a, .string SS, .string SP], .bool false]) (by simp [results, Tryz.results74, go_sem, j0, j1, j2]) rfl FIN.out
  | true =>
    have HAF : Hid (Fl.after m f (10, (n : Int)) t = finS [kk] [] (t.full.set n true) t) := by show _ = _; rw [HAF0.out, <- HCL.out, hcl2]; simp
    clear HAF0
    go_wp2_with fail
    rw [HSS.out, HEY.out]
    refine (rends_any t.stk [kk] w6 (by have := so.len; omega) (by simp) hls hlk).mono ?_
    rintro e w9 ⟨rfl, rfl⟩
    rw [<- HEY.out]
    have q0 := A5.rb.c0
    have q1 := A5.rb.c1
    have q2 := A5.rb.c2
    have z0 := A5.rb.fz 0
    have z1 := A5.rb.fz 1
    have z2 := A5.rb.fz 2
    have o0 := A5.pb.c0
    have o1 := A5.pb.c1
    have o2 := A5.pb.c2
    cases hr : decide ([kk].length <= t.stk.length /\ t.stk.drop (t.stk.length - [kk].length) = [kk]) with
    | false =>
      have hnone : Fl.after m f (10, (n : Int)) t = none := by
        rw [HAF.out]
        unfold finS
        rw [if_neg (fun h => by rw [decide_eq_true h.1] at hr; simp at hr)]
      obtain ⟨rf, rbl⟩ := A5.res hqr SS SP
      have FIN := hid (after_no (a := a) (s1 := SS) (s2 := SP) hnone rbl)
      have j0 := rf.c0
      have j1 := rf.c1
      have j2 := rf.c2
      clear HAF hr hnone rf rbl
      go_wp2
      refine bodyPost_ret (v := .tuple #[.agg #[.int .i64 a, .string SS, .string SP], .bool false]) (by simp [results, Tryz.results74, go_sem, j0, j1, j2]) rfl FIN.out
    | true =>
      have hsx := of_decide_eq_true hr
      have hlen1 : 1 <= t.stk.length := hsx.1
      obtain ⟨X1, hX1⟩ : ∃ X1, X1 = str (t.stk.take (t.stk.length - 1)) := ⟨_, rfl⟩
      have ex : SS.extract 0 (t.stk.length - 1) = X1 := by rw [HSS.out, str_extract, hX1]; rfl
      have es : X1.size = t.stk.length - 1 := by rw [hX1, str_size, List.length_take]; omega
      have hex : EX.size = 1 := by rw [HEY.out, str_size]; rfl
      have nsub : ((t.stk.length : Int) - 1).toNat = t.stk.length - 1 := by omega
      obtain ⟨rf, rbl⟩ := A5.res hqr (X1 ++ ⟨#[]⟩) ST
      have FIN : AfterOut w (((w9.setCell ⟨qr, 0, none⟩ (.int .i64 a)).setCell ⟨qr, 1, none⟩ (.string (X1 ++ ⟨#[]⟩))).setCell ⟨qr, 2, none⟩ (.string ST)) m f a (10, (n : Int)) t (.returned (.tuple #[.agg #[.int .i64 a, .string (X1 ++ ⟨#[]⟩), .string ST], .bool (decide (t.stk.length - 1 + 0 <= 16))])) := by
        have h := after_fin (a := a) HAF.out hsx rbl
        rw [<- HST.out] at h
        have h2 : str (t.stk.take (t.stk.length - [kk].length) ++ []) = X1 ++ ⟨#[]⟩ := by rw [hX1, <- str0, str_append]; rfl
        rw [h2] at h
        exact h
      have FIN := hid FIN
      have hsl16 := so.len
      have j0 := rf.c0
      have j1 := rf.c1
      have j2 := rf.c2
      clear HAF hr rf rbl hX1 hsx
      have HB : Hid (decide (((t.stk.length - 1 : Nat) : Int) <= 16) = decide (t.stk.length - 1 + 0 <= 16)) := decide_eq_decide.2 (by omega)
      generalize decide (t.stk.length - 1 + 0 <= 16) = BB at *
      obtain ⟨X2, hX2⟩ : ∃ X2, X2 = X1 ++ (⟨#[]⟩ : ByteArray) := ⟨_, rfl⟩
      rw [<- hX2] at j0 j1 j2 FIN
      have HX2 := hid hX2
      clear hX2
      go_wp2
      rw [<- HX2.out]
      refine bodyPost_ret (v := .tuple #[.agg #[.int .i64 a, .string X2, .string ST], .bool BB]) (by simp [results, Tryz.results74, go_sem, j0, j1, j2, HB.out]) rfl FIN.out
end Go.Proofs.YtjamgmbdilkbcaaGreat
