import Derived.Test.YtjamgmbdilkbcaaGreatLotLedgers16
/- The document's after: Drop. -/
namespace Go.Proofs.YtjamgmbdilkbcaaGreat
open Go.RowKit

set_option maxRecDepth 100000 in
set_option maxHeartbeats 4000000 in
theorem rafter11_any (m : Pu.Md) (f : Pu.Fn) (a : Nat) (t : Fl.S) (mk mv : Value) (x : FV) (w : World) (hm : MdR w w.heap.size mk mv m) (hf : FnR w w.heap.size x f) (mo : MdOk m) (fo : FnOk m f) (fl : FnLow m f) (so : StOk m t) (ha : a < f.code.length) (hpl : (f.code.getD a (0, 0)).1 = 11) :
    Calls Tryz.prog 74 #[.agg #[mk, mv], .agg #[x.p, x.r, x.l, x.c], PV a f t] w fun e w' => AfterOut w w' m f a (f.code.getD a (0, 0)) t e := by
  obtain ⟨a1, c1, rfl⟩ := hm.k.shape
  obtain ⟨a2, c2, rfl⟩ := hm.v.shape
  obtain ⟨x1, y1, x2, y2, x3, y3, x4, y4, rfl⟩ := hf.shape
  have hlp : Low (Fl.places f) := fun k hk => by have := fl.pl k hk; have := mo.nk; omega
  have hls : Low t.stk := fun k hk => by have := so.kinds k hk; have := mo.nk; omega
  have hop := fo.op a ha
  have harg := fl.arg a ha
  have hkd := fl.kinds a ha
  have hcl := hf.nc
  unfold maxLen at hcl
  obtain ⟨ac, cc', bc, oc, hcv, h1, h2⟩ := hf.c
  simp only [Value.slice.injEq, true_and] at hcv
  obtain ⟨rfl, rfl⟩ := hcv
  obtain ⟨rfl, hbB⟩ := h1 (by omega)
  obtain ⟨k0, k1⟩ := h2 a ha
  clear h1 h2
  obtain ⟨SS, hSS⟩ : ∃ SS, SS = str t.stk := ⟨_, rfl⟩
  obtain ⟨SP, hSP⟩ : ∃ SP, SP = bs (spots (Fl.places f) t.full) := ⟨_, rfl⟩
  unfold PV
  rw [<- hSS, <- hSP]
  have HSS := hid hSS
  have HSP := hid hSP
  clear hSS hSP
  obtain ⟨W0, hW0⟩ : ∃ W0, W0 = (((w.alloc (.cells #[.slice a1 m.kinds.length c1, .slice a2 m.funcs.length c2] 38)).alloc (.cells #[.slice x1 f.params.length y1, .slice x2 f.results.length y2, .slice x3 f.locals.length y3, .slice (some ⟨bc, oc, none⟩) f.code.length y4] 62)).alloc (.cells #[.int .i64 a, .string SS, .string SP] 158)).alloc (.cells #[.int .i64 0, .string ⟨#[]⟩, .string ⟨#[]⟩] 158) := ⟨_, rfl⟩
  have bl0 : Below w.heap.size w W0 := by rw [hW0]; exact ((((Below.refl w.heap.size w).alloc (Nat.le_refl _) _).alloc (by simp) _).alloc (by simp; omega) _).alloc (by simp; omega) _
  have sz0 : W0.heap.size = w.heap.size + 4 := by rw [hW0]; simp
  have mb0 : F2 W0 w.heap.size 38 (.slice a1 m.kinds.length c1) (.slice a2 m.funcs.length c2) := by
    rw [hW0]
    exact F2.kept (F2.kept (heap_alloc2_old w _ _) (World.grownBy_alloc _ _ none) (by simp)) (World.grownBy_alloc _ _ none) (by simp)
  have fb0 : F4 W0 (w.heap.size + 1) 62 (.slice x1 f.params.length y1) (.slice x2 f.results.length y2) (.slice x3 f.locals.length y3) (.slice (some ⟨bc, oc, none⟩) f.code.length y4) := by
    rw [hW0]
    exact F4.kept (F4.kept (heap_alloc2_new w _ _) (World.grownBy_alloc _ _ none) (by simp)) (World.grownBy_alloc _ _ none) (by simp)
  have pb0 : F3 W0 (w.heap.size + 2) 158 (.int .i64 a) (.string SS) (.string SP) := by
    have h := heap_alloc2_old ((w.alloc (.cells #[.slice a1 m.kinds.length c1, .slice a2 m.funcs.length c2] 38)).alloc (.cells #[.slice x1 f.params.length y1, .slice x2 f.results.length y2, .slice x3 f.locals.length y3, .slice (some ⟨bc, oc, none⟩) f.code.length y4] 62)) (.cells #[.int .i64 a, .string SS, .string SP] 158) (.cells #[.int .i64 0, .string ⟨#[]⟩, .string ⟨#[]⟩] 158)
    simp only [World.size_alloc] at h
    rw [hW0]
    exact h
  have rb0 : F3 W0 (w.heap.size + 3) 158 (.int .i64 0) (.string ⟨#[]⟩) (.string ⟨#[]⟩) := by
    have h := heap_alloc2_new ((w.alloc (.cells #[.slice a1 m.kinds.length c1, .slice a2 m.funcs.length c2] 38)).alloc (.cells #[.slice x1 f.params.length y1, .slice x2 f.results.length y2, .slice x3 f.locals.length y3, .slice (some ⟨bc, oc, none⟩) f.code.length y4] 62)) (.cells #[.int .i64 a, .string SS, .string SP] 158) (.cells #[.int .i64 0, .string ⟨#[]⟩, .string ⟨#[]⟩] 158)
    simp only [World.size_alloc] at h
    rw [hW0]
    exact h
  have e0 := (bl0.cell (p := ⟨bc, oc + a * 2, none⟩) hbB).trans k0
  have e1 := (bl0.cell (p := ⟨bc, oc + a * 2 + 1, none⟩) hbB).trans k1
  have HM := hid ((hm.below bl0).wide bl0.size)
  have HF := hid ((hf.below bl0).wide bl0.size)
  have HE := hid hW0
  rw [hW0] at e0 e1
  generalize f.code.getD a (0, 0) = xx at *
  obtain ⟨op, arg⟩ := xx
  simp only at e0 e1 hop harg hkd hpl
  have HOP := hid hpl
  clear hpl
  simp only
  clear k0 k1 hW0 hm hf
  go_enter Tryz.func74, Tryz.ntmps74
  go_wp2_with fail
  rw [<- HE.out]
  have bA := (Below.refl W0.heap.size W0).alloc (Nat.le_refl _) (.cells #[.int .i64 op, .int .i64 arg] 56)
  have A0 : AB w (W0.alloc (.cells #[.int .i64 op, .int .i64 arg] 56)) m f w.heap.size (w.heap.size + 1) (w.heap.size + 1 + 1) (w.heap.size + 1 + 1 + 1) (w.heap.size + 1 + 1 + 1 + 1) _ _ ⟨.slice x1 f.params.length y1, .slice x2 f.results.length y2, .slice x3 f.locals.length y3, .slice (some ⟨bc, oc, none⟩) f.code.length y4⟩ a SS SP op arg :=
    ⟨(bA.block _ mb0.lt).trans mb0, (bA.block _ fb0.lt).trans fb0, (bA.block _ pb0.lt).trans pb0, (bA.block _ rb0.lt).trans rb0, by have h := heap_alloc_new W0 (.cells #[.int .i64 op, .int .i64 arg] 56); rw [sz0] at h; exact h, (HM.out.below bA).wide bA.size, (HF.out.below bA).wide bA.size, bl0.trans (bA.mono bl0.size)⟩
  clear HE HM HF mb0 fb0 pb0 rb0 bA sz0 bl0 e0 e1 hbB
  generalize w.heap.size + 1 + 1 + 1 + 1 = qx at A0 ⊢
  have hqr : w.heap.size <= w.heap.size + 1 + 1 + 1 := by omega
  generalize w.heap.size + 1 + 1 + 1 = qr at A0 hqr ⊢
  generalize w.heap.size + 1 + 1 = qp at A0 ⊢
  generalize w.heap.size + 1 = qf at A0 ⊢
  generalize W0.alloc (.cells #[.int .i64 op, .int .i64 arg] 56) = W1 at A0 ⊢
  refine (rshape_any m _ _ op arg W1 A0.hm hop.1 harg (fun h => by have := hop.2.2 h; omega) mo.fn).mono ?_
  rintro e w2 ⟨rfl, hb2⟩
  have A2 := A0.below hb2
  clear A0 hb2
  have p0 := A2.pb.c0
  have p1 := A2.pb.c1
  have p2 := A2.pb.c2
  have f0 := A2.fb.c0
  have f1 := A2.fb.c1
  have f2 := A2.fb.c2
  have f3 := A2.fb.c3
  simp only at f0 f1 f2 f3
  obtain ⟨TK, hTK⟩ : ∃ TK, TK = str (shapeS m (op, arg)).1 := ⟨_, rfl⟩
  obtain ⟨PU, hPU⟩ : ∃ PU, PU = str (shapeS m (op, arg)).2.1 := ⟨_, rfl⟩
  obtain ⟨PL, hPL⟩ : ∃ PL, PL = (shapeS m (op, arg)).2.2 := ⟨_, rfl⟩
  rw [<- hTK, <- hPU, <- hPL]
  have HTK := hid hTK
  have HPU := hid hPU
  have HPL := hid hPL
  clear hTK hPU hPL
  go_wp2_with fail
  refine (rplaces_any f _ w2 A2.hf fo.np hlp).mono ?_
  rintro e w3 ⟨rfl, hb3⟩
  have A3 := A2.below hb3
  clear A2 hb3 p0 p1 p2 f0 f1 f2 f3
  have x0 := A3.xb.c0
  have x1' := A3.xb.c1
  have p0 := A3.pb.c0
  have p1 := A3.pb.c1
  have p2 := A3.pb.c2
  have hSl : SS.size = t.stk.length := by rw [HSS.out, str_size]
  obtain ⟨AL, hAL⟩ : ∃ AL, AL = str (Fl.places f) := ⟨_, rfl⟩
  rw [<- hAL]
  have HAL := hid hAL
  clear hAL
  have hpl := HOP.out
  subst hpl
  clear HOP
  have hs0 : shapeS m (11, arg) = ([], [], false) := by simp [shapeS]
  have eTK : TK = ⟨#[]⟩ := by rw [HTK.out, hs0]; rfl
  have ePU : PU = ⟨#[]⟩ := by rw [HPU.out, hs0]; rfl
  have ePL : PL = false := by rw [HPL.out, hs0]
  subst eTK ePU ePL
  have hspl : SP.size = (Fl.places f).length := by rw [HSP.out, bs_size]; unfold spots; rw [List.length_zipWith, so.full]; have := fo.np; omega
  have hall : AL.size = (Fl.places f).length := by rw [HAL.out, str_size]
  have hnp := fo.np
  clear HTK HPU HPL hs0
  have m0 := A3.mb.c0
  have m1 := A3.mb.c1
  have lqm := A3.mb.lt
  have lqx := A3.xb.lt
  have hn0 : Low [] := fun k hk => by simp at hk
  have hnk := mo.nk
  by_cases hemp : t.stk = []
  · have hnone := after_drop0 m f arg t hemp
    have hS0 : SS.size = 0 := by rw [hSl, hemp]; rfl
    have q0 := A3.rb.c0
    have q1 := A3.rb.c1
    have q2 := A3.rb.c2
    have z0 := A3.rb.fz 0
    have z1 := A3.rb.fz 1
    have z2 := A3.rb.fz 2
    obtain ⟨rf, rbl⟩ := A3.res hqr SS SP
    have FIN := hid (after_no (a := a) (s1 := SS) (s2 := SP) hnone rbl)
    have j0 := rf.c0
    have j1 := rf.c1
    have j2 := rf.c2
    clear rf rbl hSl hemp hnone
    go_wp2
    refine bodyPost_ret (v := .tuple #[.agg #[.int .i64 a, .string SS, .string SP], .bool false]) (by simp [results, Tryz.results74, go_sem, j0, j1, j2]) rfl FIN.out
  · have hpos : 0 < t.stk.length := List.length_pos_iff.2 hemp
    obtain ⟨kk, hkk⟩ : ∃ kk, kk = t.stk.getLast hemp := ⟨_, rfl⟩
    have hcat : t.stk = t.stk.dropLast ++ [kk] := by rw [hkk]; exact (List.dropLast_concat_getLast hemp).symm
    have HAF0 := hid (after_drop m f arg kk _ t so.len hcat)
    have hk6 := so.kinds kk (by rw [hkk]; exact List.getLast_mem hemp)
    have hlk : Low [kk] := fun k hk => by simp only [List.mem_singleton] at hk; rw [hk]; omega
    obtain ⟨EX, hEX⟩ : ∃ EX, EX = str [kk] := ⟨_, rfl⟩
    have exA : SS.extract (t.stk.length - 1) t.stk.length = EX := by
      rw [HSS.out, str_extract, List.take_of_length_le (Nat.le_refl _), hEX]
      congr 1
      conv => lhs; rw [hcat]
      rw [List.length_append, List.length_singleton, Nat.add_sub_cancel, List.drop_append_of_le_length (Nat.le_refl _), List.drop_of_length_le (Nat.le_refl _)]
      rfl
    have hexz : EX.size = 1 := by rw [hEX, str_size]; rfl
    have h0E : 0 < EX.size := by omega
    have iex : EX[0]'h0E = lt kk := str_get [kk] 0 (by simp) EX hEX h0E
    have val : ((EX[0]'h0E).toNat : Int) = 48 + kk := by rw [iex]; exact lt_val kk (by omega)
    have nsb : ((t.stk.length : Int) - 1).toNat = t.stk.length - 1 := by omega
    have HEY := hid hEX
    have hMM : MdR w3.drew w3.drew.heap.size _ _ m := (A3.below ((Below.refl _ _).drew)).hm
    have D1 : Calls Tryz.prog 99 #[.agg #[.slice a1 m.kinds.length c1, .slice a2 m.funcs.length c2], .int .i64 (IntKind.i64.wrap (IntKind.u8.wrap (48 + kk - 48))), .int .i64 2] w3.drew fun e w' => e = .returned (.bool (Fl.may m kk 2)) /\ Below w3.drew.heap.size w3.drew w' := by
      rw [show 48 + kk - 48 = kk from by omega, IntWalk.u8_in kk (by omega), IntWalk.i64_in kk (by omega)]
      exact rmay_any m _ _ kk 2 _ hMM hk6
    have D1 := hid D1
    clear hEX iex hcat hkk
    have hlb := so.len
    have wl : wrap64 ((t.stk.length : Int) - 1) = (t.stk.length : Int) - 1 := by unfold wrap64; omega
    have wb : (0 : Int) <= (t.stk.length : Int) - 1 /\ (t.stk.length : Int) - 1 <= (t.stk.length : Int) := by omega
    go_wp2_with fail
    go_region_held3 (fun w' => w'.cell? ⟨w.heap.size, 0, none⟩ = some (.slice a1 m.kinds.length c1) /\ w'.cell? ⟨w.heap.size, 1, none⟩ = some (.slice a2 m.funcs.length c2))
      (first | exact ⟨m0, m1⟩ | exact ⟨(hb4.cell (p := ⟨w.heap.size, 0, none⟩) lqm).trans m0, (hb4.cell (p := ⟨w.heap.size, 1, none⟩) lqm).trans m1⟩)
      ((go_at_call 99; with_reducible refine D1.out.mono ?_; rintro e w5 ⟨rfl, hb4⟩))
    have A4 := A3.below (((Below.refl _ _).drew).trans hb4)
    clear A3 p0 p1 p2 x0 x1' m0 m1 lqm lqx hb4 D1 hMM
    have p1 := A4.pb.c1
    clear wl wb nsb hlb hexz exA val
    cases hmm : Fl.may m kk 2 with
    | false =>
      rw [hmm] at HAF0
      have hnone : Fl.after m f (11, arg) t = none := by rw [HAF0.out]; simp
      clear HAF0
      go_wp2_with fail
      rw [HSS.out, HEY.out]
      refine (rends_any t.stk [kk] w5 (by have := so.len; omega) (by simp) hls hlk).mono ?_
      rintro e w9 ⟨rfl, rfl⟩
      have q0 := A4.rb.c0
      have q1 := A4.rb.c1
      have q2 := A4.rb.c2
      have z0 := A4.rb.fz 0
      have z1 := A4.rb.fz 1
      have z2 := A4.rb.fz 2
      have o0 := A4.pb.c0
      have o1 := A4.pb.c1
      have o2 := A4.pb.c2
      obtain ⟨rf, rbl⟩ := A4.res hqr SS SP
      have FIN := hid (after_no (a := a) (s1 := SS) (s2 := SP) hnone rbl)
      have j0 := rf.c0
      have j1 := rf.c1
      have j2 := rf.c2
      clear rf rbl
      generalize decide ([kk].length <= t.stk.length /\ t.stk.drop (t.stk.length - [kk].length) = [kk]) = RR
      cases RR
      all_goals
        go_wp2
        refine bodyPost_ret (v := .tuple #[.agg #[.int .i64 a, .string SS, .string SP], .bool false]) (by simp [results, Tryz.results74, go_sem, j0, j1, j2]) rfl FIN.out
    | true =>
      rw [hmm] at HAF0
      have HAF : Hid (Fl.after m f (11, arg) t = finS [kk] [] t.full t) := by show _ = _; rw [HAF0.out]; simp
      clear HAF0
      go_wp2_with fail
      rw [HSS.out, HEY.out]
      refine (rends_any t.stk [kk] w5 (by have := so.len; omega) (by simp) hls hlk).mono ?_
      rintro e w9 ⟨rfl, rfl⟩
      rw [<- HEY.out]
      have q0 := A4.rb.c0
      have q1 := A4.rb.c1
      have q2 := A4.rb.c2
      have z0 := A4.rb.fz 0
      have z1 := A4.rb.fz 1
      have z2 := A4.rb.fz 2
      have o0 := A4.pb.c0
      have o1 := A4.pb.c1
      have o2 := A4.pb.c2
      cases hr : decide ([kk].length <= t.stk.length /\ t.stk.drop (t.stk.length - [kk].length) = [kk]) with
      | false =>
        have hnone : Fl.after m f (11, arg) t = none := by
          rw [HAF.out]
          unfold finS
          rw [if_neg (fun h => by rw [decide_eq_true h.1] at hr; simp at hr)]
        obtain ⟨rf, rbl⟩ := A4.res hqr SS SP
        have FIN := hid (after_no (a := a) (s1 := SS) (s2 := SP) hnone rbl)
        have j0 := rf.c0
        have j1 := rf.c1
        have j2 := rf.c2
        clear HAF hr hnone rf rbl
        go_wp2
        refine bodyPost_ret (v := .tuple #[.agg #[.int .i64 a, .string SS, .string SP], .bool false]) (by simp [results, Tryz.results74, go_sem, j0, j1, j2]) rfl FIN.out
      | true =>
        have hsx := of_decide_eq_true hr
        have hlen1 : 1 <= t.stk.length := hsx.1
        obtain ⟨X1, hX1⟩ : ∃ X1, X1 = str (t.stk.take (t.stk.length - 1)) := ⟨_, rfl⟩
        have ex : SS.extract 0 (t.stk.length - 1) = X1 := by rw [HSS.out, str_extract, hX1]; rfl
        have es : X1.size = t.stk.length - 1 := by rw [hX1, str_size, List.length_take]; omega
        have hex : EX.size = 1 := by rw [HEY.out, str_size]; rfl
        have nsub : ((t.stk.length : Int) - 1).toNat = t.stk.length - 1 := by omega
        obtain ⟨rf, rbl⟩ := A4.res hqr (X1 ++ ⟨#[]⟩) SP
        have FIN : AfterOut w (((w9.setCell ⟨qr, 0, none⟩ (.int .i64 a)).setCell ⟨qr, 1, none⟩ (.string (X1 ++ ⟨#[]⟩))).setCell ⟨qr, 2, none⟩ (.string SP)) m f a (11, arg) t (.returned (.tuple #[.agg #[.int .i64 a, .string (X1 ++ ⟨#[]⟩), .string SP], .bool (decide (t.stk.length - 1 + 0 <= 16))])) := by
          have h := after_fin (a := a) HAF.out hsx rbl
          rw [<- HSP.out] at h
          have h2 : str (t.stk.take (t.stk.length - [kk].length) ++ []) = X1 ++ ⟨#[]⟩ := by rw [hX1, <- str0, str_append]; rfl
          rw [h2] at h
          exact h
        have FIN := hid FIN
        have hsl16 := so.len
        have j0 := rf.c0
        have j1 := rf.c1
        have j2 := rf.c2
        clear HAF hr rf rbl hX1 hsx
        have HB : Hid (decide (((t.stk.length - 1 : Nat) : Int) <= 16) = decide (t.stk.length - 1 + 0 <= 16)) := decide_eq_decide.2 (by omega)
        generalize decide (t.stk.length - 1 + 0 <= 16) = BB at *
        obtain ⟨X2, hX2⟩ : ∃ X2, X2 = X1 ++ (⟨#[]⟩ : ByteArray) := ⟨_, rfl⟩
        rw [<- hX2] at j0 j1 j2 FIN
        have HX2 := hid hX2
        clear hX2
        go_wp2
        rw [<- HX2.out]
        refine bodyPost_ret (v := .tuple #[.agg #[.int .i64 a, .string X2, .string SP], .bool BB]) (by simp [results, Tryz.results74, go_sem, j0, j1, j2, HB.out]) rfl FIN.out
end Go.Proofs.YtjamgmbdilkbcaaGreat

/- The document's after: Ret. -/
namespace Go.Proofs.YtjamgmbdilkbcaaGreat
open Go.RowKit

set_option maxRecDepth 100000 in
set_option maxHeartbeats 4000000 in
theorem rafter0_any (m : Pu.Md) (f : Pu.Fn) (a : Nat) (t : Fl.S) (mk mv : Value) (x : FV) (w : World) (hm : MdR w w.heap.size mk mv m) (hf : FnR w w.heap.size x f) (mo : MdOk m) (fo : FnOk m f) (fl : FnLow m f) (so : StOk m t) (ha : a < f.code.length) (hpl : (f.code.getD a (0, 0)).1 = 0) :
    Calls Tryz.prog 74 #[.agg #[mk, mv], .agg #[x.p, x.r, x.l, x.c], PV a f t] w fun e w' => AfterOut w w' m f a (f.code.getD a (0, 0)) t e := by
  obtain ⟨a1, c1, rfl⟩ := hm.k.shape
  obtain ⟨a2, c2, rfl⟩ := hm.v.shape
  obtain ⟨x1, y1, x2, y2, x3, y3, x4, y4, rfl⟩ := hf.shape
  have hlp : Low (Fl.places f) := fun k hk => by have := fl.pl k hk; have := mo.nk; omega
  have hls : Low t.stk := fun k hk => by have := so.kinds k hk; have := mo.nk; omega
  have hop := fo.op a ha
  have harg := fl.arg a ha
  have hkd := fl.kinds a ha
  have hcl := hf.nc
  unfold maxLen at hcl
  obtain ⟨ac, cc', bc, oc, hcv, h1, h2⟩ := hf.c
  simp only [Value.slice.injEq, true_and] at hcv
  obtain ⟨rfl, rfl⟩ := hcv
  obtain ⟨rfl, hbB⟩ := h1 (by omega)
  obtain ⟨k0, k1⟩ := h2 a ha
  clear h1 h2
  obtain ⟨SS, hSS⟩ : ∃ SS, SS = str t.stk := ⟨_, rfl⟩
  obtain ⟨SP, hSP⟩ : ∃ SP, SP = bs (spots (Fl.places f) t.full) := ⟨_, rfl⟩
  unfold PV
  rw [<- hSS, <- hSP]
  have HSS := hid hSS
  have HSP := hid hSP
  clear hSS hSP
  obtain ⟨W0, hW0⟩ : ∃ W0, W0 = (((w.alloc (.cells #[.slice a1 m.kinds.length c1, .slice a2 m.funcs.length c2] 38)).alloc (.cells #[.slice x1 f.params.length y1, .slice x2 f.results.length y2, .slice x3 f.locals.length y3, .slice (some ⟨bc, oc, none⟩) f.code.length y4] 62)).alloc (.cells #[.int .i64 a, .string SS, .string SP] 158)).alloc (.cells #[.int .i64 0, .string ⟨#[]⟩, .string ⟨#[]⟩] 158) := ⟨_, rfl⟩
  have bl0 : Below w.heap.size w W0 := by rw [hW0]; exact ((((Below.refl w.heap.size w).alloc (Nat.le_refl _) _).alloc (by simp) _).alloc (by simp; omega) _).alloc (by simp; omega) _
  have sz0 : W0.heap.size = w.heap.size + 4 := by rw [hW0]; simp
  have mb0 : F2 W0 w.heap.size 38 (.slice a1 m.kinds.length c1) (.slice a2 m.funcs.length c2) := by
    rw [hW0]
    exact F2.kept (F2.kept (heap_alloc2_old w _ _) (World.grownBy_alloc _ _ none) (by simp)) (World.grownBy_alloc _ _ none) (by simp)
  have fb0 : F4 W0 (w.heap.size + 1) 62 (.slice x1 f.params.length y1) (.slice x2 f.results.length y2) (.slice x3 f.locals.length y3) (.slice (some ⟨bc, oc, none⟩) f.code.length y4) := by
    rw [hW0]
    exact F4.kept (F4.kept (heap_alloc2_new w _ _) (World.grownBy_alloc _ _ none) (by simp)) (World.grownBy_alloc _ _ none) (by simp)
  have pb0 : F3 W0 (w.heap.size + 2) 158 (.int .i64 a) (.string SS) (.string SP) := by
    have h := heap_alloc2_old ((w.alloc (.cells #[.slice a1 m.kinds.length c1, .slice a2 m.funcs.length c2] 38)).alloc (.cells #[.slice x1 f.params.length y1, .slice x2 f.results.length y2, .slice x3 f.locals.length y3, .slice (some ⟨bc, oc, none⟩) f.code.length y4] 62)) (.cells #[.int .i64 a, .string SS, .string SP] 158) (.cells #[.int .i64 0, .string ⟨#[]⟩, .string ⟨#[]⟩] 158)
    simp only [World.size_alloc] at h
    rw [hW0]
    exact h
  have rb0 : F3 W0 (w.heap.size + 3) 158 (.int .i64 0) (.string ⟨#[]⟩) (.string ⟨#[]⟩) := by
    have h := heap_alloc2_new ((w.alloc (.cells #[.slice a1 m.kinds.length c1, .slice a2 m.funcs.length c2] 38)).alloc (.cells #[.slice x1 f.params.length y1, .slice x2 f.results.length y2, .slice x3 f.locals.length y3, .slice (some ⟨bc, oc, none⟩) f.code.length y4] 62)) (.cells #[.int .i64 a, .string SS, .string SP] 158) (.cells #[.int .i64 0, .string ⟨#[]⟩, .string ⟨#[]⟩] 158)
    simp only [World.size_alloc] at h
    rw [hW0]
    exact h
  have e0 := (bl0.cell (p := ⟨bc, oc + a * 2, none⟩) hbB).trans k0
  have e1 := (bl0.cell (p := ⟨bc, oc + a * 2 + 1, none⟩) hbB).trans k1
  have HM := hid ((hm.below bl0).wide bl0.size)
  have HF := hid ((hf.below bl0).wide bl0.size)
  have HE := hid hW0
  rw [hW0] at e0 e1
  generalize f.code.getD a (0, 0) = xx at *
  obtain ⟨op, arg⟩ := xx
  simp only at e0 e1 hop harg hkd hpl
  have HOP := hid hpl
  clear hpl
  simp only
  clear k0 k1 hW0 hm hf
  go_enter Tryz.func74, Tryz.ntmps74
  go_wp2_with fail
  rw [<- HE.out]
  have bA := (Below.refl W0.heap.size W0).alloc (Nat.le_refl _) (.cells #[.int .i64 op, .int .i64 arg] 56)
  have A0 : AB w (W0.alloc (.cells #[.int .i64 op, .int .i64 arg] 56)) m f w.heap.size (w.heap.size + 1) (w.heap.size + 1 + 1) (w.heap.size + 1 + 1 + 1) (w.heap.size + 1 + 1 + 1 + 1) _ _ ⟨.slice x1 f.params.length y1, .slice x2 f.results.length y2, .slice x3 f.locals.length y3, .slice (some ⟨bc, oc, none⟩) f.code.length y4⟩ a SS SP op arg :=
    ⟨(bA.block _ mb0.lt).trans mb0, (bA.block _ fb0.lt).trans fb0, (bA.block _ pb0.lt).trans pb0, (bA.block _ rb0.lt).trans rb0, by have h := heap_alloc_new W0 (.cells #[.int .i64 op, .int .i64 arg] 56); rw [sz0] at h; exact h, (HM.out.below bA).wide bA.size, (HF.out.below bA).wide bA.size, bl0.trans (bA.mono bl0.size)⟩
  clear HE HM HF mb0 fb0 pb0 rb0 bA sz0 bl0 e0 e1 hbB
  generalize w.heap.size + 1 + 1 + 1 + 1 = qx at A0 ⊢
  have hqr : w.heap.size <= w.heap.size + 1 + 1 + 1 := by omega
  generalize w.heap.size + 1 + 1 + 1 = qr at A0 hqr ⊢
  generalize w.heap.size + 1 + 1 = qp at A0 ⊢
  generalize w.heap.size + 1 = qf at A0 ⊢
  generalize W0.alloc (.cells #[.int .i64 op, .int .i64 arg] 56) = W1 at A0 ⊢
  refine (rshape_any m _ _ op arg W1 A0.hm hop.1 harg (fun h => by have := hop.2.2 h; omega) mo.fn).mono ?_
  rintro e w2 ⟨rfl, hb2⟩
  have A2 := A0.below hb2
  clear A0 hb2
  have p0 := A2.pb.c0
  have p1 := A2.pb.c1
  have p2 := A2.pb.c2
  have f0 := A2.fb.c0
  have f1 := A2.fb.c1
  have f2 := A2.fb.c2
  have f3 := A2.fb.c3
  simp only at f0 f1 f2 f3
  obtain ⟨TK, hTK⟩ : ∃ TK, TK = str (shapeS m (op, arg)).1 := ⟨_, rfl⟩
  obtain ⟨PU, hPU⟩ : ∃ PU, PU = str (shapeS m (op, arg)).2.1 := ⟨_, rfl⟩
  obtain ⟨PL, hPL⟩ : ∃ PL, PL = (shapeS m (op, arg)).2.2 := ⟨_, rfl⟩
  rw [<- hTK, <- hPU, <- hPL]
  have HTK := hid hTK
  have HPU := hid hPU
  have HPL := hid hPL
  clear hTK hPU hPL
  go_wp2_with fail
  refine (rplaces_any f _ w2 A2.hf fo.np hlp).mono ?_
  rintro e w3 ⟨rfl, hb3⟩
  have A3 := A2.below hb3
  clear A2 hb3 p0 p1 p2 f0 f1 f2 f3
  have x0 := A3.xb.c0
  have x1' := A3.xb.c1
  have p0 := A3.pb.c0
  have p1 := A3.pb.c1
  have p2 := A3.pb.c2
  have hSl : SS.size = t.stk.length := by rw [HSS.out, str_size]
  obtain ⟨AL, hAL⟩ : ∃ AL, AL = str (Fl.places f) := ⟨_, rfl⟩
  rw [<- hAL]
  have HAL := hid hAL
  clear hAL
  have hpl := HOP.out
  subst hpl
  clear HOP
  have hs0 : shapeS m (0, arg) = ([], [], false) := by simp [shapeS]
  have eTK : TK = ⟨#[]⟩ := by rw [HTK.out, hs0]; rfl
  have ePU : PU = ⟨#[]⟩ := by rw [HPU.out, hs0]; rfl
  have ePL : PL = false := by rw [HPL.out, hs0]
  subst eTK ePU ePL
  have hspl : SP.size = (Fl.places f).length := by rw [HSP.out, bs_size]; unfold spots; rw [List.length_zipWith, so.full]; have := fo.np; omega
  have hall : AL.size = (Fl.places f).length := by rw [HAL.out, str_size]
  have hnp := fo.np
  clear HTK HPU HPL hs0
  have m0 := A3.mb.c0
  have m1 := A3.mb.c1
  have lqm := A3.mb.lt
  have lqx := A3.xb.lt
  have hn0 : Low [] := fun k hk => by simp at hk
  have hnk := mo.nk
  have f0 := A3.fb.c0
  have f1 := A3.fb.c1
  have f2 := A3.fb.c2
  have f3 := A3.fb.c3
  simp only at f0 f1 f2 f3
  have hrs := fo.nr
  go_wp2_with fail
  refine (rletters_any f.results _ w3 A3.hf.r hrs (fun k hk => by have := fl.rs k hk; omega)).mono ?_
  rintro e w4 ⟨rfl, hb4⟩
  have A4 := A3.below hb4
  clear A3 x0 x1' p0 p1 p2 m0 m1 lqm lqx f0 f1 f2 f3 hb4
  have p1 := A4.pb.c1
  have f1 := A4.fb.c1
  simp only at f1
  obtain ⟨RR, hRR⟩ : ∃ RR, RR = str f.results := ⟨_, rfl⟩
  rw [<- hRR]
  have HRR := hid hRR
  clear hRR
  go_wp2_with fail
  clear p1 f1
  go_loopw [13, 15] (fun ok i wr => ∃ k : Nat, k <= (Fl.places f).length /\ i = .int .i64 k /\ ok = .bool (decide (t.stk.length = f.results.length /\ ∀ j, j < k -> Fl.canLose m f t j = true)) /\ AB w wr m f w.heap.size qf qp qr qx (.slice a1 m.kinds.length c1) (.slice a2 m.funcs.length c2) ⟨.slice x1 f.params.length y1, .slice x2 f.results.length y2, .slice x3 f.locals.length y3, .slice (some ⟨bc, oc, none⟩) f.code.length y4⟩ a SS SP 0 arg) (fun _ i _ => (Fl.places f).length - (intOf i).toNat)
  case atStart => exact ⟨0, Nat.zero_le _, rfl, by rw [show ((t.stk.length : Int) == (f.results.length : Int)) = decide (t.stk.length = f.results.length /\ ∀ j : Nat, j < 0 -> Fl.canLose m f t j = true) from by rw [Bool.eq_iff_iff, beq_iff_eq, decide_eq_true_iff]; exact ⟨fun h => ⟨by omega, fun j hj => by omega⟩, fun h => by have := h.1; omega⟩], A4⟩
  case round =>
    clear A4
    obtain ⟨k, hk, rfl, rfl, A5⟩ := hrel
    by_cases hlt : k < (Fl.places f).length
    · have hnS : k < SP.size := by omega
      have hk6 := fl.pl ((Fl.places f).getD k 0) (by rw [List.getD_eq_getElem?_getD, List.getElem?_eq_getElem hlt]; exact List.getElem_mem hlt)
      have isp : SP[k]'hnS = spot ((Fl.places f).getD k 0) (t.full.getD k false) := spots_get _ _ k hlt (by rw [so.full]; omega) SP HSP.out hnS
      obtain ⟨VV, hVV⟩ : ∃ VV : Int, VV = ((SP[k]'hnS).toNat : Int) := ⟨_, rfl⟩
      have hVX := hVV.symm
      rw [isp] at hVV
      obtain ⟨CL, hCL⟩ : ∃ CL, CL = Fl.canLose m f t k := ⟨_, rfl⟩
      have hMM : MdR wr.drew wr.drew.heap.size _ _ m := (A5.below ((Below.refl _ _).drew)).hm
      have D1 : Calls Tryz.prog 98 #[.agg #[.slice a1 m.kinds.length c1, .slice a2 m.funcs.length c2], .int .u8 VV] wr.drew fun e w' => e = .returned (.bool CL) /\ Below wr.drew.heap.size wr.drew w' := by
        rw [hVV, hCL]
        exact rfree_any m _ _ _ _ _ hMM hk6 hnk
      have D1 := hid D1
      have HST : Hid ((decide (t.stk.length = f.results.length /\ ∀ j, j < k -> Fl.canLose m f t j = true) && CL) = decide (t.stk.length = f.results.length /\ ∀ j, j < k + 1 -> Fl.canLose m f t j = true)) := by
        show _ = _
        rw [hCL, Bool.eq_iff_iff, Bool.and_eq_true, decide_eq_true_iff, decide_eq_true_iff]
        constructor
        · rintro ⟨⟨h1, h2⟩, h3⟩
          refine ⟨h1, fun j hj => ?_⟩
          by_cases hjk : j = k
          · rw [hjk]; exact h3
          · exact h2 j (by omega)
        · rintro ⟨h1, h2⟩
          exact ⟨⟨h1, fun j hj => h2 j (by omega)⟩, h2 k (by omega)⟩
      generalize decide (t.stk.length = f.results.length /\ ∀ j, j < k -> Fl.canLose m f t j = true) = OK at *
      have m0 := A5.mb.c0
      have m1 := A5.mb.c1
      have lqm := A5.mb.lt
      clear isp hVV hCL hk6
      go_wp2_with fail
      go_region_held3 (fun w' => w'.cell? ⟨w.heap.size, 0, none⟩ = some (.slice a1 m.kinds.length c1) /\ w'.cell? ⟨w.heap.size, 1, none⟩ = some (.slice a2 m.funcs.length c2))
        (first | exact ⟨m0, m1⟩ | exact ⟨(hb4.cell (p := ⟨w.heap.size, 0, none⟩) lqm).trans m0, (hb4.cell (p := ⟨w.heap.size, 1, none⟩) lqm).trans m1⟩)
        ((go_at_call 98; with_reducible refine D1.out.mono ?_; rintro e w5 ⟨rfl, hb4⟩))
      have A6 := A5.below (((Below.refl _ _).drew).trans hb4)
      clear A5 m0 m1 lqm hb4 D1 hMM
      cases OK with
      | false =>
        go_wp2
        go_roundw
        case rel => exact ⟨k + 1, hlt, by go_num, by rw [<- HST.out]; rfl, A6⟩
        case measure => simp [intOf]; omega
      | true =>
        go_wp2
        go_roundw
        case rel => exact ⟨k + 1, hlt, by go_num, by rw [<- HST.out]; simp, A6⟩
        case measure => simp [intOf]; omega
    · have hkl : k = (Fl.places f).length := by omega
      subst hkl
      have hAR := after_ret m f arg t
      have hok : Hid (decide (t.stk.length = f.results.length /\ ∀ j, j < (Fl.places f).length -> Fl.canLose m f t j = true) = decide (t.stk.length = f.results.length /\ ∀ j, j < (Fl.places f).length -> Fl.canLose m f t j = true)) := hid rfl
      cases hB : decide (t.stk.length = f.results.length /\ ∀ j, j < (Fl.places f).length -> Fl.canLose m f t j = true) with
      | false =>
        have hnone : Fl.after m f (0, arg) t = none := by
          rw [hAR, if_neg (fun h => of_decide_eq_false hB ⟨by rw [h.1], h.2⟩)]
        clear hAR hok hB
        have p1 := A5.pb.c1
        go_wp2_with fail
        rw [HSS.out, HRR.out]
        refine (rends_any t.stk f.results wr (by have := so.len; omega) hrs hls fl.rs).mono ?_
        rintro e w9 ⟨rfl, rfl⟩
        have q0 := A5.rb.c0
        have q1 := A5.rb.c1
        have q2 := A5.rb.c2
        have z0 := A5.rb.fz 0
        have z1 := A5.rb.fz 1
        have z2 := A5.rb.fz 2
        have o0 := A5.pb.c0
        have o1 := A5.pb.c1
        have o2 := A5.pb.c2
        obtain ⟨rf, rbl⟩ := A5.res hqr SS SP
        have FIN := hid (after_no (a := a) (s1 := SS) (s2 := SP) hnone rbl)
        have j0 := rf.c0
        have j1 := rf.c1
        have j2 := rf.c2
        clear rf rbl
        generalize decide (f.results.length <= t.stk.length /\ t.stk.drop (t.stk.length - f.results.length) = f.results) = RR
        cases RR
        all_goals
          go_wp2
          refine bodyPost_ret (v := .tuple #[.agg #[.int .i64 a, .string SS, .string SP], .bool false]) (by simp [results, Tryz.results74, go_sem, j0, j1, j2]) rfl FIN.out
      | true =>
        have hBB := of_decide_eq_true hB
        clear hok hB
        have p1 := A5.pb.c1
        go_wp2_with fail
        rw [HSS.out, HRR.out]
        refine (rends_any t.stk f.results wr (by have := so.len; omega) hrs hls fl.rs).mono ?_
        rintro e w9 ⟨rfl, rfl⟩
        rw [<- HRR.out]
        have q0 := A5.rb.c0
        have q1 := A5.rb.c1
        have q2 := A5.rb.c2
        have z0 := A5.rb.fz 0
        have z1 := A5.rb.fz 1
        have z2 := A5.rb.fz 2
        have o0 := A5.pb.c0
        have o1 := A5.pb.c1
        have o2 := A5.pb.c2
        cases hr : decide (f.results.length <= t.stk.length /\ t.stk.drop (t.stk.length - f.results.length) = f.results) with
        | false =>
          have hnone : Fl.after m f (0, arg) t = none := by
            rw [hAR]
            rw [if_neg (fun h => of_decide_eq_false hr ⟨by rw [h.1]; exact Nat.le_refl _, by rw [h.1, Nat.sub_self]; rfl⟩)]
          obtain ⟨rf, rbl⟩ := A5.res hqr SS SP
          have FIN := hid (after_no (a := a) (s1 := SS) (s2 := SP) hnone rbl)
          have j0 := rf.c0
          have j1 := rf.c1
          have j2 := rf.c2
          clear hAR hBB hr hnone rf rbl
          go_wp2
          refine bodyPost_ret (v := .tuple #[.agg #[.int .i64 a, .string SS, .string SP], .bool false]) (by simp [results, Tryz.results74, go_sem, j0, j1, j2]) rfl FIN.out
        | true =>
          have hsx := of_decide_eq_true hr
          have hst : t.stk = f.results := by have h := hsx.2; rw [hBB.1, Nat.sub_self] at h; exact h
          have hsome : Fl.after m f (0, arg) t = some t := by rw [hAR, if_pos ⟨hst, hBB.2⟩]
          have hRz : RR.size = t.stk.length := by rw [HRR.out, str_size, hst]
          have ex0 : SS.extract 0 0 = ⟨#[]⟩ := by
            rw [HSS.out, str_extract]; rfl
          obtain ⟨X2, hX2⟩ : ∃ X2, X2 = (⟨#[]⟩ : ByteArray) := ⟨_, rfl⟩
          obtain ⟨rf, rbl⟩ := A5.res hqr X2 SP
          have FIN : AfterOut w (((w9.setCell ⟨qr, 0, none⟩ (.int .i64 a)).setCell ⟨qr, 1, none⟩ (.string X2)).setCell ⟨qr, 2, none⟩ (.string SP)) m f a (0, arg) t (.returned (.tuple #[.agg #[.int .i64 a, .string X2, .string SP], .bool true])) :=
            ⟨true, _, rfl, by simp [hsome], fun t' _ h => absurd rfl h, ⟨_, _, _, rfl⟩, rbl⟩
          have FIN := hid FIN
          have hsl16 := so.len
          have j0 := rf.c0
          have j1 := rf.c1
          have j2 := rf.c2
          have HX2 := hid hX2
          clear hAR hBB hr rf rbl hX2 hsx hst hsome
          go_wp2
          rw [<- HX2.out]
          refine bodyPost_ret (v := .tuple #[.agg #[.int .i64 a, .string X2, .string SP], .bool true]) (by simp [results, Tryz.results74, go_sem, j0, j1, j2]) rfl FIN.out
end Go.Proofs.YtjamgmbdilkbcaaGreat

/- The document's after: every operation. -/
namespace Go.Proofs.YtjamgmbdilkbcaaGreat
open Go.RowKit

theorem rafter_any (m : Pu.Md) (f : Pu.Fn) (a : Nat) (t : Fl.S) (mk mv : Value) (x : FV) (w : World) (hm : MdR w w.heap.size mk mv m) (hf : FnR w w.heap.size x f) (mo : MdOk m) (fo : FnOk m f) (fl : FnLow m f) (so : StOk m t) (ha : a < f.code.length) :
    Calls Tryz.prog 74 #[.agg #[mk, mv], .agg #[x.p, x.r, x.l, x.c], PV a f t] w fun e w' => AfterOut w w' m f a (f.code.getD a (0, 0)) t e := by
  by_cases h0 : (f.code.getD a (0, 0)).1 = 0
  · exact rafter0_any m f a t mk mv x w hm hf mo fo fl so ha h0
  by_cases h8 : (f.code.getD a (0, 0)).1 = 8
  · exact rafter8_any m f a t mk mv x w hm hf mo fo fl so ha h8
  by_cases h9 : (f.code.getD a (0, 0)).1 = 9
  · exact rafter9_any m f a t mk mv x w hm hf mo fo fl so ha h9
  by_cases h10 : (f.code.getD a (0, 0)).1 = 10
  · exact rafter10_any m f a t mk mv x w hm hf mo fo fl so ha h10
  by_cases h11 : (f.code.getD a (0, 0)).1 = 11
  · exact rafter11_any m f a t mk mv x w hm hf mo fo fl so ha h11
  exact rafterD_any m f a t mk mv x w hm hf mo fo fl so ha ⟨h0, h8, h9, h10, h11⟩
end Go.Proofs.YtjamgmbdilkbcaaGreat
