import Derived.Test.YtjamgmbdilkbcaaGreatLotLedgers07
/- lead. -/
namespace Go.Proofs.YtjamgmbdilkbcaaGreat
open Go.RowKit

def absS (ss : List SV) : List (Option Fl.S) := ss.map fun s => if s.kn = true then some s.st else none
structure LP where
  σ : List (Option Fl.S)
  T : List Nat
  bad : Bool
def leadP (to : Int) (s : Fl.S) (p : LP) : LP :=
  if to < 0 \/ (p.σ.length : Int) <= to then ⟨p.σ, p.T, true⟩
  else match p.σ.getD to.toNat none with
    | none => ⟨p.σ.set to.toNat (some s), p.T ++ [to.toNat], p.bad⟩
    | some u => ⟨p.σ, p.T, p.bad || decide (u ≠ s)⟩
def LeadOut (w w' : World) (B q : Nat) (m : Pu.Md) (f : Pu.Fn) (mk mv pl st td : Value) (x : FV) (p : LP) (e : Ending) : Prop :=
  e = .returned (.tuple #[]) /\ (∃ td' ss, WW w' B q m f mk mv pl st td' x p.bad ss p.T /\ absS ss = p.σ /\ ∀ k, td'.ownBlock = some k -> td.ownBlock = some k \/ w.heap.size <= k) /\ Fr w w' (fun k => k = q \/ st.ownBlock = some k \/ td.ownBlock = some k)
theorem owns_bel {w w' : World} {B e size n : Nat} {v : Value} {xs : List Value} (h : w.ownsRow B e size v n xs) (hb : Below w.heap.size w w') : w'.ownsRow B e size v n xs := owns_block h (fun k e => hb.block k (owns_lt h e))
section
variable {w w' : World} {B q : Nat} {m : Pu.Md} {f : Pu.Fn} {mk mv pl st td : Value} {x : FV} {bad : Bool} {ss : List SV} {T : List Nat}
theorem WW.below (h : WW w B q m f mk mv pl st td x bad ss T) (hb : Below w.heap.size w w') : WW w' B q m f mk mv pl st td x bad ss T :=
  ⟨h.wm.grown (r := none) ⟨hb.os, hb.tape, hb.output, hb.size, fun k hk _ => hb.block k hk⟩ (by intro k hk; cases hk), owns_bel h.os hb, owns_bel h.ot hb, h.ok⟩
theorem WW.set9 (h : WW w B q m f mk mv pl st td x bad ss T) (b : Bool) : WW (w.setCell ⟨q, 9, none⟩ (.bool b)) B q m f mk mv pl st td x b ss T := by
  have hb : Below B w (w.setCell ⟨q, 9, none⟩ (.bool b)) := (Below.refl B w).setCell (p := ⟨q, 9, none⟩) h.wm.hq _
  refine ⟨⟨h.wm.k.set9 b, h.wm.mr.below hb, h.wm.fr.below hb, h.wm.pr.below hb, h.wm.ko, h.wm.np, h.wm.hq⟩, owns_set h.os ?_ 9 _, owns_set h.ot ?_ 9 _, h.ok⟩
  · intro e
    obtain ⟨c, hc⟩ := owns_ty h.os e
    rw [h.wm.k.b] at hc
    simp at hc
  · intro e
    obtain ⟨c, hc⟩ := owns_ty h.ot e
    rw [h.wm.k.b] at hc
    simp at hc
theorem WW.store (h : WW w B q m f mk mv pl st td x bad ss T) {gs cap : Nat} (hst : st = .slice (some ⟨gs, 0, none⟩) ss.length cap) (j : Nat) (hj : j < ss.length) (s : SV) (os : s.Ok) (hs : s.bad = false) :
    WW (w.setCells gs (j * 27) s.cells) B q m f mk mv pl st td x bad (ss.set j s) T /\ w.grownBy (w.setCells gs (j * 27) s.cells) (some gs) := by
  subst hst
  have ok : ∀ s ∈ ss, s.Ok := fun s hs => (h.ok s hs).1
  have ho := owns_setCells s.cells (j * 27) w _ h.os
  rw [scs_set ss ok j hj s os] at ho
  have hgs := (h.os.lt gs rfl).1
  obtain ⟨c, hc⟩ := owns_ty h.os (k := gs) rfl
  refine ⟨⟨h.wm.grown ho.2 (fun k hk => ?_), by rw [List.length_set]; exact ho.1, owns_block h.ot (fun k hk => ho.2.block k (owns_lt h.ot hk) ?_), fun u hu => ?_⟩, ho.2⟩
  · simp only [Option.some.injEq] at hk
    subst hk
    refine ⟨hgs, fun e => ?_⟩
    subst e
    rw [h.wm.k.b] at hc
    simp at hc
  · intro e
    simp only [Option.some.injEq] at e
    subst e
    obtain ⟨c', hc'⟩ := owns_ty h.ot hk
    rw [hc] at hc'
    simp at hc'
  · rcases List.mem_or_eq_of_mem_set hu with hu | rfl
    · exact h.ok u hu
    · exact ⟨os, fun _ => hs⟩
theorem WW.push (h : WW w B q m f mk mv pl st td x bad ss T) {td2 : Value} {j : Nat} (ho : w'.ownsRow B 3 1 td2 (T.length + 1) ((T.map fun n : Nat => Value.int .i64 (n : Int)) ++ [.int .i64 (j : Int)])) (hg : w.grownBy w' td.ownBlock) :
    WW (w'.setCell ⟨q, 8, none⟩ td2) B q m f mk mv pl st td2 x bad ss (T ++ [j]) := by
  have hne : some q ≠ td.ownBlock := by
    intro e
    obtain ⟨c, hc⟩ := owns_ty h.ot e.symm
    rw [h.wm.k.b] at hc
    simp at hc
  have k5 := h.wm.k.kept hg hne
  have wm5 := h.wm.grown hg (fun k hk => ⟨(h.ot.lt k hk).1, fun e => by subst e; exact hne hk.symm⟩)
  have hb : Below B w' (w'.setCell ⟨q, 8, none⟩ td2) := (Below.refl B w').setCell (p := ⟨q, 8, none⟩) h.wm.hq _
  have os5 := owns_other h.os h.ot hg (by decide)
  refine ⟨⟨k5.set8 td2, wm5.mr.below hb, wm5.fr.below hb, wm5.pr.below hb, h.wm.ko, h.wm.np, h.wm.hq⟩, owns_set os5 ?_ 8 _, ?_, h.ok⟩
  · intro e
    obtain ⟨c, hc⟩ := owns_ty os5 e
    rw [k5.b] at hc
    simp at hc
  · rw [List.length_append, List.length_singleton, List.map_append]
    refine owns_set ho ?_ 8 _
    intro e
    obtain ⟨c, hc⟩ := owns_ty ho e
    rw [k5.b] at hc
    simp at hc
end

theorem absS_set (ss : List SV) (j : Nat) (s : SV) (hk : s.kn = true) : absS (ss.set j s) = (absS ss).set j (some s.st) := by
  unfold absS
  rw [List.map_set]
  simp [hk]
set_option maxRecDepth 100000 in
set_option maxHeartbeats 4000000 in
theorem flead_any (B q : Nat) (to : Int) (s : SV) (m : Pu.Md) (f : Pu.Fn) (mk mv pl st td : Value) (x : FV) (bad : Bool) (ss : List SV) (T : List Nat) (w : World) (hw : WW w B q m f mk mv pl st td x bad ss T) (os : s.Ok) (hs : s.bad = false) (hk : s.kn = true) (hT : T.length <= 1000000) :
    Calls Tryz.prog 81 #[.pointer (some ⟨q, 0, none⟩), .int .i64 to, s.val] w fun e w' => LeadOut w w' B q m f mk mv pl st td x (leadP to s.st ⟨absS ss, T, bad⟩) e := by
  obtain ⟨i0, hi0, hz0, hz1, hz2⟩ := info_parts Tryz.info3
  obtain ⟨ast, cst, hstv⟩ := owns_shape hw.os
  subst hstv
  have d7 := hw.wm.k.c7
  have d9 := hw.wm.k.c9
  have z9 := hw.wm.k.fz 9
  have l0 := hw.wm.k.lt
  have hal : (absS ss).length = ss.length := by simp [absS]
  have HAL := hid hal
  clear hal
  by_cases hr : to < 0 \/ (ss.length : Int) <= to
  · have e1 : leadP to s.st ⟨absS ss, T, bad⟩ = ⟨absS ss, T, true⟩ := by unfold leadP; rw [if_pos (by simp only [HAL.out]; exact hr)]
    rw [e1]
    have w2 := (hw.set9 true).below ((Below.refl _ _).alloc (Nat.le_refl _) (.cells s.cells.toArray 176))
    have FIN : Hid (LeadOut w ((w.setCell ⟨q, 9, none⟩ (.bool true)).alloc (.cells s.cells.toArray 176)) B q m f mk mv pl (.slice ast ss.length cst) td x ⟨absS ss, T, true⟩ (.returned (.tuple #[]))) :=
      ⟨rfl, ⟨td, ss, w2, rfl, fun k hk => .inl hk⟩, ((Fr.refl w _).grown (grown_set w q 9 _) (fun k hk => by simp only [Option.some.injEq] at hk; subst hk; exact .inl (.inl rfl))).grown (World.grownBy_alloc _ _ none) (by intro k hk; cases hk)⟩
    clear w2 hw HAL e1
    unfold SV.val
    by_cases h0 : to < 0
    · go_enter Tryz.func81, Tryz.ntmps81
      go_wp2
      refine bodyPost_ret (results_none rfl _ _ _) rfl ?_
      exact FIN.out
    · have h1 : (ss.length : Int) <= to := by omega
      go_enter Tryz.func81, Tryz.ntmps81
      go_wp2
      refine bodyPost_ret (results_none rfl _ _ _) rfl ?_
      exact FIN.out
  · obtain ⟨j, rfl⟩ : ∃ j : Nat, to = j := ⟨to.toNat, by omega⟩
    have hj : j < ss.length := by omega
    obtain ⟨gs, rfl⟩ : ∃ gs, ast = some ⟨gs, 0, none⟩ := by
      rcases hw.os.2 with ⟨_, h0⟩ | ⟨g0, cap', cur, h0, _⟩
      · omega
      · simp only [Value.slice.injEq] at h0
        exact ⟨g0, h0.1⟩
    have ok : ∀ s ∈ ss, s.Ok := fun s hs => (hw.ok s hs).1
    have HLP : Hid (leadP (j : Int) s.st ⟨absS ss, T, bad⟩ = if ss[j].kn = true then ⟨absS ss, T, bad || decide (ss[j].st ≠ s.st)⟩ else ⟨(absS ss).set j (some s.st), T ++ [j], bad⟩) := by
      show _ = _
      unfold leadP
      rw [if_neg (by simp only [HAL.out]; omega)]
      have hg : (absS ss).getD (j : Int).toNat none = if ss[j].kn = true then some ss[j].st else none := by
        simp [absS, List.getD_eq_getElem?_getD, hj]
      simp only [hg]
      cases ss[j].kn <;> simp
    have c0 : w.cell? ⟨gs, j * 27, none⟩ = some (.bool ss[j].kn) := by
      rw [hw.os.cellAt (j * 27) (by omega)]
      have := scs_get ss ok j 0 hj (by omega)
      rw [Nat.add_zero] at this
      rw [this]
      rfl
    have lgs : gs < w.heap.size := owns_lt hw.os rfl
    obtain ⟨W0, hW0⟩ : ∃ W0, W0 = w.alloc (.cells s.cells.toArray 176) := ⟨_, rfl⟩
    have hb0 : Below w.heap.size w W0 := by rw [hW0]; exact (Below.refl w.heap.size w).alloc (Nat.le_refl _) _
    have bx0 : W0.heap[w.heap.size]? = some (.cells s.cells.toArray 176 (0, 0)) := by rw [hW0]; exact heap_alloc_new w _
    have w0 := hw.below hb0
    have HW := hid hW0
    clear hW0
    cases hkn : ss[j].kn with
    | false =>
      rw [hkn] at HLP c0
      have e1 := HLP.out
      simp only [Bool.false_eq_true, if_false] at e1
      rw [e1]
      clear e1 HLP
      have rg := range_box bx0
      have th := there_state w0.os ok j hj rfl
      have e7 := w0.wm.k.c7
      have hgq : gs ≠ q := by
        intro e
        obtain ⟨c, hc⟩ := owns_ty w0.os (k := gs) rfl
        rw [e, w0.wm.k.b] at hc
        simp at hc
      have hgb : w.heap.size ≠ gs := by omega
      unfold SV.val
      go_enter Tryz.func81, Tryz.ntmps81
      go_wp2
      rw [<- HW.out]
      clear HW d7 d9 z9 c0
      refine wp_region_noPanic ?_
      refine wp_region_held_drew (S := fun w' => w'.cell? ⟨q, 7, none⟩ = some (.slice (some ⟨gs, 0, none⟩) ss.length cst) /\ w'.rangeAt w.heap.size 0 s.cells) (by kernel_rfl) ⟨e7, rg⟩ (fun hHeld => ?_)
      refine wpAnyH_take (i := 0) (v := ?_) rfl (by kernel_rfl) (by kernel_rfl) (by kernel_rfl) (fun _ _ _ h => (h : False).elim) (Or.inl ⟨by rfl, ?tk0⟩) (by assumption) ?_
      case tk0 => (intro w hSw; obtain ⟨hc7, hrg⟩ := hSw; go_simp; try with_reducible rfl)
      simp only [List.getElem_toArray, List.getElem_cons_zero, Act.put, List.setIfInBounds_toArray, List.set_cons_zero, List.set_cons_succ]
      refine wpAnyH_take (i := 1) (v := ?_) rfl (by kernel_rfl) (by kernel_rfl) (by kernel_rfl) (fun _ _ _ h => (h : False).elim) (Or.inl ⟨by rfl, ?tk1⟩) (by assumption) ?_
      case tk1 => (intro w hSw; obtain ⟨hc7, hrg⟩ := hSw; go_simp; try with_reducible rfl)
      simp only [List.getElem_toArray, List.getElem_cons_zero, List.getElem_cons_succ, Act.put, List.setIfInBounds_toArray, List.set_cons_zero, List.set_cons_succ]
      refine wpAnyH_take (i := 2) (v := ?_) rfl (by kernel_rfl) (by kernel_rfl) (by kernel_rfl) (fun _ _ _ h => (h : False).elim) (Or.inl ⟨by rfl, ?tk2⟩) (by assumption) ?_
      case tk2 => (intro w hSw; obtain ⟨hc7, hrg⟩ := hSw; go_simp; try with_reducible rfl)
      simp only [List.getElem_toArray, List.getElem_cons_zero, List.getElem_cons_succ, Act.put, List.setIfInBounds_toArray, List.set_cons_zero, List.set_cons_succ]
      refine wpAnyH_take (i := 3) (v := ?_) rfl (by kernel_rfl) (by kernel_rfl) (by kernel_rfl) (fun _ _ _ h => (h : False).elim) (Or.inl ⟨by rfl, ?tk3⟩) (by assumption) ?_
      case tk3 => (intro w hSw; obtain ⟨hc7, hrg⟩ := hSw; go_simp; try with_reducible rfl)
      simp only [List.getElem_toArray, List.getElem_cons_zero, List.getElem_cons_succ, Act.put, List.setIfInBounds_toArray, List.set_cons_zero, List.set_cons_succ]
      refine wpAnyH_take (i := 4) (v := ?_) rfl (by kernel_rfl) (by kernel_rfl) (by kernel_rfl) (fun _ _ _ h => (h : False).elim) (Or.inl ⟨by rfl, ?tk4⟩) (by assumption) ?_
      case tk4 => (intro w hSw; obtain ⟨hc7, hrg⟩ := hSw; go_simp; try with_reducible rfl)
      simp only [List.getElem_toArray, List.getElem_cons_zero, List.getElem_cons_succ, Act.put, List.setIfInBounds_toArray, List.set_cons_zero, List.set_cons_succ]
      refine wpAnyH_take (i := 5) (v := _) rfl (by kernel_rfl) (by kernel_rfl) (by kernel_rfl) (fun _ _ _ h => (h : False).elim) (yieldsIf_load_mid (by rfl) _ _ rfl _ _ rfl _ _ (fun w hS => hS.2) Tryz.underlying176 rfl (by rw [s.len os]; exact Tryz.size176)) (by assumption) ?_
      simp only [List.getElem_toArray, List.getElem_cons_zero, List.getElem_cons_succ, Act.put, List.setIfInBounds_toArray, List.set_cons_zero, List.set_cons_succ]
      refine wpAnyH_take (i := 6) (v := ?_) rfl (by kernel_rfl) (by kernel_rfl) (by kernel_rfl) (fun _ _ _ h => (h : False).elim) (Or.inl ⟨by rfl, ?tk5⟩) (by assumption) ?_
      case tk5 => (intro w hSw; obtain ⟨hc7, hrg⟩ := hSw; go_simp; try with_reducible rfl)
      simp only [List.getElem_toArray, List.getElem_cons_zero, List.getElem_cons_succ, Act.put, List.setIfInBounds_toArray, List.set_cons_zero, List.set_cons_succ]
      refine wpAnyH_ready (rs := [7]) (by kernel_rfl) (by simp) ?_
      refine AllReadyH.cons rfl (fun K hK => ?_) AllReadyH.nil
      rw [if_pos (by rfl)]
      refine wp_store_mid _ _ _ rfl _ _ s.cells.toArray rfl rfl ?_ ?_ (all_oneCell_toArray s.one) ?_
      · simp only [List.size_toArray, s.len os]; exact th
      · simp only [List.size_toArray, s.len os]; exact Tryz.size176
      rw [List.toList_toArray]
      refine hK.out _ _ ⟨(World.cell?_setCells_out gs s.cells (j * 27) _ _ (fun h => absurd h (Ne.symm hgq))).trans hHeld.1, World.rangeAt_setCells_apart hHeld.2 _ _ _ (.inl hgb)⟩ (fun _ => ?_)
      clear hK K
      simp only [List.getElem_toArray, List.getElem_cons_zero, List.getElem_cons_succ, Act.put]
      refine wpAnyH_done (by kernel_rfl) (NoPanic.normal ?_) _
      have wd := (w0.below ((Below.refl _ _).drew)).store rfl j hj s os hs
      have fd := (Fr.refl w (fun k => k = q \/ (Value.slice (some ⟨gs, 0, none⟩) ss.length cst).ownBlock = some k \/ td.ownBlock = some k)).grown (r := none) ⟨hb0.os, hb0.tape, hb0.output, hb0.size, fun k hk _ => hb0.block k hk⟩ (by intro k hk; cases hk)
      have fd2 := (fd.grown (r := none) (grown_of_alike (w := W0) (w' := W0.drew) ⟨rfl, rfl, rfl, rfl⟩) (by intro k hk; cases hk)).grown wd.2 (fun k hk => by simp only [Option.some.injEq] at hk; subst hk; exact .inl (.inr (.inl rfl)))
      have w1 := wd.1
      have hsz1 : w.heap.size <= (W0.drew.setCells gs (j * 27) s.cells).heap.size := Nat.le_trans hb0.size wd.2.size
      clear wd fd hHeld rg th e7 w0 bx0 hb0
      generalize W0.drew.setCells gs (j * 27) s.cells = W1 at *
      obtain ⟨atd, ctd, htd⟩ := owns_shape w1.ot
      subst htd
      have e8 := w1.wm.k.c8
      have wA := w1.below ((Below.refl W1.heap.size W1).alloc (Nat.le_refl _) (.cells #[.int .i64 (j : Int)] 3))
      have fdA := fd2.grown (World.grownBy_alloc W1 (.cells #[.int .i64 (j : Int)] 3) none) (by intro k hk; cases hk)
      have hq1 := w1.wm.k.lt
      have hBq := w1.wm.hq
      clear w1 fd2
      go_wp2_with (at_builtin; refine wpList_append_keep rfl _ _ 35 rfl B 3 i0 (.int .i64 0) 1 8 Tryz.underlying35 hi0 hz0 hz1 hz2 rfl (by decide) _ _ _ rfl wA.ot ⟨W1.heap.size, 0, none⟩ 1 1 [.int .i64 (j : Int)] rfl rfl (cell_one_new _ _ _) ?t2 ?t3 ?t4 ?t5 (by decide) ?_)
      case t2 => intro u hu; simp at hu; subst hu; rfl
      case t3 => unfold maxLen; omega
      case t4 => omega
      case t5 => simp only [World.size_alloc]; omega
      intro td2 w5 hv5 hg5 _ hl5
      obtain ⟨ao2, cap2, rfl⟩ := owns_shape hv5
      have hne : some q ≠ (Value.slice atd T.length ctd).ownBlock := by
        intro e
        obtain ⟨c, hc⟩ := owns_ty wA.ot e.symm
        rw [wA.wm.k.b] at hc
        simp at hc
      have k5 : WK w5 q _ _ _ _ _ _ _ := wA.wm.k.kept hg5 hne
      have e85 := k5.c8
      have z85 := k5.fz 8
      have wF := wA.push hv5 hg5
      have fF := (fdA.grown hg5 (fun k hk => .inl (.inr (.inr hk)))).grown (grown_set w5 q 8 (.slice ao2 (T.length + 1) cap2)) (fun k hk => by simp only [Option.some.injEq] at hk; subst hk; exact .inl (.inl rfl))
      have lF : ∀ k, (Value.slice ao2 (T.length + 1) cap2).ownBlock = some k -> (Value.slice atd T.length ctd).ownBlock = some k \/ w.heap.size <= k := by
        intro k hk
        rcases loc hl5 (Nat.le_refl _) k hk with h | h
        · exact .inl h
        · exact .inr (by omega)
      have FIN : Hid (LeadOut w (w5.setCell ⟨q, 8, none⟩ (.slice ao2 (T.length + 1) cap2)) B q m f mk mv pl (.slice (some ⟨gs, 0, none⟩) ss.length cst) (.slice atd T.length ctd) x ⟨(absS ss).set j (some s.st), T ++ [j], bad⟩ (.returned (.tuple #[]))) :=
        ⟨rfl, ⟨_, ss.set j s, wF, absS_set ss j s hk, lF⟩, fF⟩
      clear wF fF lF wA fdA hv5 hg5 hl5 k5
      go_wp2
      try simp only [Exit.inBlock, Exit.then]
      refine bodyPost_ret (results_none rfl _ _ _) rfl ?_
      exact FIN.out
    | true =>
      rw [hkn] at HLP c0
      have e1 := HLP.out
      simp only [if_true] at e1
      rw [e1]
      clear e1 HLP
      have rg := range_box bx0
      have rs := range_state w0.os ok j hj rfl
      have e7 := w0.wm.k.c7
      have oj := ok _ (List.getElem_mem hj)
      unfold SV.val
      go_enter Tryz.func81, Tryz.ntmps81
      go_wp2_with fail
      rw [<- HW.out]
      clear HW d7 d9 z9 c0
      refine wp_region_noPanic ?_
      refine wp_region_held_drew (S := fun w' => w'.cell? ⟨q, 7, none⟩ = some (.slice (some ⟨gs, 0, none⟩) ss.length cst) /\ w'.rangeAt w.heap.size 0 s.cells /\ w'.rangeAt gs (j * 27) ss[j].cells /\ Below W0.heap.size W0 w') (by kernel_rfl) ⟨e7, rg, rs, (Below.refl _ _).drew⟩ (fun hHeld => ?_)
      refine wpAnyH_take (i := 0) (v := ?_) rfl (by kernel_rfl) (by kernel_rfl) (by kernel_rfl) (fun _ _ _ h => (h : False).elim) (Or.inl ⟨by rfl, ?sk0⟩) (by assumption) ?_
      case sk0 => (intro w hSw; obtain ⟨hc7, hrg, hrs, hbl⟩ := hSw; go_simp; try with_reducible rfl)
      simp only [List.getElem_toArray, List.getElem_cons_zero, Act.put, List.setIfInBounds_toArray, List.set_cons_zero, List.set_cons_succ]
      refine wpAnyH_take (i := 1) (v := ?_) rfl (by kernel_rfl) (by kernel_rfl) (by kernel_rfl) (fun _ _ _ h => (h : False).elim) (Or.inl ⟨by rfl, ?sk1⟩) (by assumption) ?_
      case sk1 => (intro w hSw; obtain ⟨hc7, hrg, hrs, hbl⟩ := hSw; go_simp; try with_reducible rfl)
      simp only [List.getElem_toArray, List.getElem_cons_zero, List.getElem_cons_succ, Act.put, List.setIfInBounds_toArray, List.set_cons_zero, List.set_cons_succ]
      refine wpAnyH_take (i := 2) (v := ?_) rfl (by kernel_rfl) (by kernel_rfl) (by kernel_rfl) (fun _ _ _ h => (h : False).elim) (Or.inl ⟨by rfl, ?sk2⟩) (by assumption) ?_
      case sk2 => (intro w hSw; obtain ⟨hc7, hrg, hrs, hbl⟩ := hSw; go_simp; try with_reducible rfl)
      simp only [List.getElem_toArray, List.getElem_cons_zero, List.getElem_cons_succ, Act.put, List.setIfInBounds_toArray, List.set_cons_zero, List.set_cons_succ]
      refine wpAnyH_take (i := 3) (v := ?_) rfl (by kernel_rfl) (by kernel_rfl) (by kernel_rfl) (fun _ _ _ h => (h : False).elim) (Or.inl ⟨by rfl, ?sk3⟩) (by assumption) ?_
      case sk3 => (intro w hSw; obtain ⟨hc7, hrg, hrs, hbl⟩ := hSw; go_simp; try with_reducible rfl)
      simp only [List.getElem_toArray, List.getElem_cons_zero, List.getElem_cons_succ, Act.put, List.setIfInBounds_toArray, List.set_cons_zero, List.set_cons_succ]
      refine wpAnyH_take (i := 4) (v := ?_) rfl (by kernel_rfl) (by kernel_rfl) (by kernel_rfl) (fun _ _ _ h => (h : False).elim) (Or.inl ⟨by rfl, ?sk4⟩) (by assumption) ?_
      case sk4 => (intro w hSw; obtain ⟨hc7, hrg, hrs, hbl⟩ := hSw; go_simp; try with_reducible rfl)
      simp only [List.getElem_toArray, List.getElem_cons_zero, List.getElem_cons_succ, Act.put, List.setIfInBounds_toArray, List.set_cons_zero, List.set_cons_succ]
      refine wpAnyH_take (i := 5) (v := ?_) rfl (by kernel_rfl) (by kernel_rfl) (by kernel_rfl) (fun _ _ _ h => (h : False).elim) (Or.inl ⟨by rfl, ?sk5⟩) (by assumption) ?_
      case sk5 => (intro w hSw; obtain ⟨hc7, hrg, hrs, hbl⟩ := hSw; go_simp; try with_reducible rfl)
      simp only [List.getElem_toArray, List.getElem_cons_zero, List.getElem_cons_succ, Act.put, List.setIfInBounds_toArray, List.set_cons_zero, List.set_cons_succ]
      refine wpAnyH_take (i := 6) (v := _) rfl (by kernel_rfl) (by kernel_rfl) (by kernel_rfl) (fun _ _ _ h => (h : False).elim) (yieldsIf_load_mid (by rfl) _ _ rfl _ _ rfl _ _ (fun w hS => hS.2.2.1) Tryz.underlying176 rfl (by rw [ss[j].len oj]; exact Tryz.size176)) (by assumption) ?_
      simp only [List.getElem_toArray, List.getElem_cons_zero, List.getElem_cons_succ, Act.put, List.setIfInBounds_toArray, List.set_cons_zero, List.set_cons_succ]
      refine wpAnyH_take (i := 7) (v := _) rfl (by kernel_rfl) (by kernel_rfl) (by kernel_rfl) (fun _ _ _ h => (h : False).elim) (yieldsIf_load_mid (by rfl) _ _ rfl _ _ rfl _ _ (fun w hS => hS.2.1) Tryz.underlying176 rfl (by rw [s.len os]; exact Tryz.size176)) (by assumption) ?_
      simp only [List.getElem_toArray, List.getElem_cons_zero, List.getElem_cons_succ, Act.put, List.setIfInBounds_toArray, List.set_cons_zero, List.set_cons_succ]
      refine wpAnyH_ready (rs := [8]) (by kernel_rfl) (by simp) ?_
      refine AllReadyH.cons rfl (fun K hK => ?_) AllReadyH.nil
      rw [if_pos (by rfl)]
      go_simp
      refine (fsame_any ss[j] s W0.drew oj os).mono ?_
      rintro e w3 ⟨r, rfl, hr, hb3⟩
      have hb4 : Below W0.heap.size W0 w3 := ((Below.refl _ _).drew).trans hb3
      have w3w := w0.below hb4
      refine hK.out _ _ ⟨w3w.wm.k.c7, range_box ((hb4.block _ (Array.getElem?_eq_some_iff.1 bx0).1).trans bx0), range_state w3w.os ok j hj rfl, hb4⟩ (fun hHeld2 => ?_)
      clear hK K hHeld
      refine wpAnyH_take (i := 9) (v := ?_) rfl (by kernel_rfl) (by kernel_rfl) (by kernel_rfl) (fun _ _ _ h => (h : False).elim) (Or.inl ⟨by rfl, ?sk9⟩) (by assumption) ?_
      case sk9 => (intro w hSw; go_simp; try with_reducible rfl)
      simp only [List.getElem_toArray, List.getElem_cons_zero, List.getElem_cons_succ, Act.put, List.setIfInBounds_toArray, List.set_cons_zero, List.set_cons_succ]
      refine wpAnyH_done (by kernel_rfl) (NoPanic.normal ?_) _
      have d9 := w3w.wm.k.c9
      have z9 := w3w.wm.k.fz 9
      have fd := (Fr.refl w (fun k => k = q \/ (Value.slice (some ⟨gs, 0, none⟩) ss.length cst).ownBlock = some k \/ td.ownBlock = some k)).grown (r := none) ⟨hb0.os, hb0.tape, hb0.output, hb0.size, fun k hk _ => hb0.block k hk⟩ (by intro k hk; cases hk)
      have fd2 := fd.grown (r := none) ⟨hb4.os, hb4.tape, hb4.output, hb4.size, fun k hk _ => hb4.block k hk⟩ (by intro k hk; cases hk)
      cases r with
      | true =>
        have e2 : ss[j].st = s.st := hr.1 rfl
        have FIN : Hid (LeadOut w w3 B q m f mk mv pl (.slice (some ⟨gs, 0, none⟩) ss.length cst) td x ⟨absS ss, T, bad || decide (ss[j].st ≠ s.st)⟩ (.returned (.tuple #[]))) :=
          ⟨rfl, ⟨td, ss, by simp only [e2, ne_eq, not_true_eq_false, decide_false, Bool.or_false]; exact w3w, rfl, fun k hk => .inl hk⟩, fd2⟩
        clear w3w fd fd2 hr hb4 hb3 hb0 w0 bx0 rg rs e7 hHeld2 e2
        go_wp2
        go_end0
        exact FIN.out
      | false =>
        have e2 : ss[j].st ≠ s.st := fun e => by have := hr.2 e; simp at this
        have FIN : Hid (LeadOut w (w3.setCell ⟨q, 9, none⟩ (.bool true)) B q m f mk mv pl (.slice (some ⟨gs, 0, none⟩) ss.length cst) td x ⟨absS ss, T, bad || decide (ss[j].st ≠ s.st)⟩ (.returned (.tuple #[]))) :=
          ⟨rfl, ⟨td, ss, by simp only [ne_eq, e2, not_false_eq_true, decide_true, Bool.or_true]; exact w3w.set9 true, rfl, fun k hk => .inl hk⟩, fd2.grown (grown_set w3 q 9 _) (fun k hk => by simp only [Option.some.injEq] at hk; subst hk; exact .inl (.inl rfl))⟩
        clear w3w fd fd2 hr hb4 hb3 hb0 w0 bx0 rg rs e7 hHeld2 e2
        go_wp2
        go_end0
        exact FIN.out
end Go.Proofs.YtjamgmbdilkbcaaGreat
