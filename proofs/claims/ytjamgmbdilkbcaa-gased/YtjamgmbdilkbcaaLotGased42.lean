import Derived.Test.YtjamgmbdilkbcaaLotGased27
import Derived.Test.YtjamgmbdilkbcaaLotGased09
import Derived.Test.YtjamgmbdilkbcaaLotGased40
import Derived.Test.YtjamgmbdilkbcaaLotGased41
import Derived.Test.YtjamgmbdilkbcaaLotGased37
/- New: the ledger's module lies in fresh memory. -/
namespace Go.Proofs.Ytjamgmbdilkbcaa
open Go.RowKit

/-- a module that hangs on the blocks from B on, below q, alone. -/
def FM (w : World) (B q : Nat) (mk mv : Value) (m : Pu.Md) : Prop := ∀ w' : World, q ≤ w'.heap.size → (∀ k, B ≤ k → k < q → w'.heap[k]? = w.heap[k]?) → MdR w' q mk mv m

theorem md_fm {w : World} {B : Nat} {m : Pu.Md} {k v : Value} {xs : List FV} (h : MdAt w B m k v xs) : FM w B w.heap.size k v m := fun w' hs ha => by
  obtain ⟨W, hW⟩ : ∃ W : World, W = { w' with heap := w'.heap.extract 0 w.heap.size } := ⟨_, rfl⟩
  have sz : W.heap.size = w.heap.size := by rw [hW]; simp; omega
  have hg : ∀ k, k < w.heap.size → W.heap[k]? = w'.heap[k]? := fun k hk => by
    rw [hW]
    show (w'.heap.extract 0 w.heap.size)[k]? = _
    rw [Array.getElem?_extract_of_lt (by simp; omega)]
    simp
  have ho : ∀ {e size n : Nat} {v : Value} {xs : List Value}, w.ownsRow B e size v n xs → W.ownsRow B e size v n xs := fun h => owns_block h fun j hj => by
    have := h.lt j hj
    rw [hg j this.2, ha j this.1 this.2]
  have hM : MdAt W B m k v xs := ⟨ho h.hk, ho h.hv, h.hf.imp fun f x hx => ⟨ho hx.p, ho hx.r, ho hx.l, ho hx.c⟩, h.nd⟩
  have hR := mdAt_reads hM
  rw [sz] at hR
  refine hR.below ⟨by rw [hW], by rw [hW], by rw [hW], by rw [sz]; exact hs, fun k hk => (hg k hk).symm⟩

theorem FM.mdR {w : World} {B q : Nat} {mk mv : Value} {m : Pu.Md} (h : FM w B q mk mv m) (hq : q ≤ w.heap.size) : MdR w q mk mv m := h w hq fun _ _ _ => rfl
theorem FM.eqv {w w' : World} {B q : Nat} {mk mv : Value} {m : Pu.Md} (h : FM w B q mk mv m) (he : ∀ k, B ≤ k → k < q → w'.heap[k]? = w.heap[k]?) : FM w' B q mk mv m := fun w2 hs ha => h w2 hs fun k h1 h2 => (ha k h1 h2).trans (he k h1 h2)
theorem FM.up {w w' : World} {B q q' : Nat} {mk mv : Value} {m : Pu.Md} (h : FM w B q mk mv m) (hq : q ≤ q') (he : ∀ k, B ≤ k → k < q → w'.heap[k]? = w.heap[k]?) : FM w' B q' mk mv m := fun w2 hs ha => (h w2 (by omega) fun k h1 h2 => (ha k h1 (by omega)).trans (he k h1 h2)).wide hq

/-- what New leaves. -/
def NewFm (w w' : World) (b : ByteArray) (r : Ending) : Prop :=
  (∃ e p, e ≠ 0 ∧ ChkSays b e p ∧ r = .returned (.tuple #[.pointer none, .int .i64 e]) ∧ Below w.heap.size w w') ∨
  (∃ p q mk mv, ChkSays b 0 p ∧ r = .returned (.tuple #[.pointer (some ⟨q, 0, none⟩), .int .i64 0]) ∧ w.heap.size ≤ q ∧ LedR w' q mk mv noHeld ∧ FM w' w.heap.size q mk mv (Pu.decode b).1 ∧ Below w.heap.size w w')

set_option maxRecDepth 100000 in
set_option maxHeartbeats 2000000 in
theorem new_fm (b : ByteArray) (w : World) (hs : b.size ≤ maxLen) :
    Calls Try.prog 32 #[.string b] w fun e w' => NewFm w w' b e := by
  go_enter Try.func32, Try.ntmps32
  go_wp2_with fail
  refine (readModule_any b _ hs).mono ?_
  rintro e w1 ⟨ho, hb1⟩
  obtain ⟨k, v, xs, rfl, hm, _, _⟩ := ho.one
  obtain ⟨a1, c1, rfl⟩ := owns_shape hm.hk
  obtain ⟨a2, c2, rfl⟩ := owns_shape hm.hv
  clear ho
  have HFM := hid (md_fm hm)
  have HFIN : Hid (∀ p q mk mv w', ChkSays b 0 p → w.heap.size ≤ q → LedR w' q mk mv noHeld → FM w' w.heap.size q mk mv (Pu.decode b).1 → Below w.heap.size w w' → NewFm w w' b (.returned (.tuple #[.pointer (some ⟨q, 0, none⟩), .int .i64 0]))) := hid fun p q mk mv w' h1 h2 h3 h4 h7 => .inr ⟨p, q, mk, mv, h1, rfl, h2, h3, h4, h7⟩
  have HIS : Hid ((Pu.decode b).2.1 = 0 → Pu.isMd (Pu.decode b).1 = true) := fun h => dec_is h
  have HC : Hid (∀ e p, ((¬ (Pu.decode b).2.1 = 0 ∧ e = (Pu.decode b).2.1 ∧ p = (Pu.decode b).2.2) ∨ ((Pu.decode b).2.1 = 0 ∧ FlowSays (Pu.decode b).1 e p)) → ChkSays b e p) := fun e p h => h
  have hr := mdAt_reads hm
  generalize (Pu.decode b).1 = m at *
  generalize (Pu.decode b).2.1 = ev at *
  generalize (Pu.decode b).2.2 = av at *
  have hbA := (Below.refl w1.heap.size w1).alloc (Nat.le_refl _) (.cells #[.slice a1 m.kinds.length c1, .slice a2 m.funcs.length c2] 33)
  have bxA : F2 (w1.alloc (.cells #[.slice a1 m.kinds.length c1, .slice a2 m.funcs.length c2] 33)) w1.heap.size 33 (.slice a1 m.kinds.length c1) (.slice a2 m.funcs.length c2) := heap_alloc_new w1 _
  have hrA := (hr.below hbA).wide hbA.size
  have hb2 := hb1.trans (hbA.mono hb1.size)
  clear hm hr
  by_cases hev : ev = 0
  · subst hev
    have his := HIS.out rfl
    have HC0 : Hid (∀ e p, FlowSays m e p → ChkSays b e p) := fun e p h => HC.out e p (.inr ⟨rfl, h⟩)
    clear HIS HC
    go_wp2_with fail
    refine (fcheckm_any m _ _ _ hrA his).mono ?_
    rintro e w3 ⟨e3, p3, rfl, hf3, hb3⟩
    have bx3 : F2 w3 w1.heap.size 33 _ _ := (hb3.block _ bxA.lt).trans bxA
    have d0 := bx3.c0
    have d1 := bx3.c1
    by_cases he3 : e3 = 0
    · subst he3
      have z1 := hb1.size
      have z3 := hb3.size
      simp only [World.size_alloc] at z3
      have al := (Below.refl w3.heap.size w3).alloc (Nat.le_refl _) (.cells ((Try.zeroCells114.setIfInBounds 0 (.slice a1 m.kinds.length c1)).setIfInBounds 1 (.slice a2 m.funcs.length c2)) 114)
      have hbF : Below w.heap.size w (w3.alloc (.cells ((Try.zeroCells114.setIfInBounds 0 (.slice a1 m.kinds.length c1)).setIfInBounds 1 (.slice a2 m.funcs.length c2)) 114)) := (hb2.trans (hb3.mono (by simp only [World.size_alloc]; omega))).trans (al.mono (by omega))
      have hm3 : FM (w3.alloc (.cells ((Try.zeroCells114.setIfInBounds 0 (.slice a1 m.kinds.length c1)).setIfInBounds 1 (.slice a2 m.funcs.length c2)) 114)) w.heap.size w3.heap.size (.slice a1 m.kinds.length c1) (.slice a2 m.funcs.length c2) m := HFM.out.up (by omega) fun k _ hk => by
        rw [al.block k (by omega), hb3.block k (by simp only [World.size_alloc]; omega), hbA.block k hk]
      have FIN := hid (HFIN.out p3 w3.heap.size (.slice a1 m.kinds.length c1) (.slice a2 m.funcs.length c2) _ (HC0.out 0 p3 hf3) (by omega) ⟨by rw [heap_alloc_new, newCells]⟩ hm3 hbF)
      clear hf3 hb3 hb2 hrA bxA hbA hb1 HC0 bx3 HFIN al hbF hm3
      go_wp2_with fail
      go_ret2
      exact FIN.out
    · have FIN : Hid (NewFm w w3 b (.returned (.tuple #[.pointer none, .int .i64 e3]))) := .inl ⟨e3, p3, he3, HC0.out _ _ hf3, rfl, hb2.trans (hb3.mono hb2.size)⟩
      clear hf3 hb3 hb2 hrA bxA hbA hb1 HC0 bx3 HFIN
      go_wp2_with fail
      go_ret2
      exact FIN.out
  · have FIN : Hid (NewFm w (w1.alloc (.cells #[.slice a1 m.kinds.length c1, .slice a2 m.funcs.length c2] 33)) b (.returned (.tuple #[.pointer none, .int .i64 ev]))) := .inl ⟨ev, av, hev, HC.out _ _ (.inl ⟨hev, rfl, rfl⟩), rfl, hb2⟩
    clear hb2 hrA bxA hbA hb1 HC HIS HFIN
    go_wp2_with fail
    go_ret2
    exact FIN.out
end Go.Proofs.Ytjamgmbdilkbcaa

/- Kept: opened. -/
namespace Go.Proofs.Ytjamgmbdilkbcaa
open Go.RowKit

/-- the bank's ledger, its module from block B on. -/
def LgF (w : World) (q : Nat) (A : Nat → Bool × Int) (B : Nat) : Prop := ∃ mk mv Hs, w.heap[q]? = some (.cells (#[mk, mv] ++ Hs) 114 (0, 0)) ∧ RowA Hs A ∧ FM w B q mk mv bankM
section
variable {w w' : World} {q B r : Nat} {A A' : Nat → Bool × Int}
theorem LgF.lt (h : LgF w q A B) : q < w.heap.size := by
  obtain ⟨mk, mv, Hs, h1, _⟩ := h
  exact (Array.getElem?_eq_some_iff.1 h1).1
theorem LgF.lg (h : LgF w q A B) : Lg w q bankM A := by
  have hq := h.lt
  obtain ⟨mk, mv, Hs, h1, h2, h3⟩ := h
  exact ⟨mk, mv, Hs, h1, h2, h3.mdR (Nat.le_of_lt hq)⟩
theorem LgF.eqv (h : LgF w q A B) (h1 : w'.heap[q]? = w.heap[q]?) (h2 : ∀ k, B ≤ k → k < q → w'.heap[k]? = w.heap[k]?) : LgF w' q A B := by
  obtain ⟨mk, mv, Hs, k1, k2, k3⟩ := h
  exact ⟨mk, mv, Hs, h1.trans k1, k2, k3.eqv h2⟩
theorem LgF.low (h : LgF w q A B) (hg : w.grownBy w' (some r)) (hr : q < r) : LgF w' q A B := by
  have hq := h.lt
  exact h.eqv (hg.block q hq (by simp; omega)) fun k _ hk => hg.block k (by omega) (by simp; omega)
theorem LgF.far (h : LgF w q A B) (hg : w.grownBy w' (some r)) (hr : r < B) (hB : B ≤ q) : LgF w' q A B := by
  have hq := h.lt
  exact h.eqv (hg.block q hq (by simp; omega)) fun k h1 hk => hg.block k (by omega) (by simp; omega)
theorem LgF.below (h : LgF w q A B) {b : Nat} (hb : Below b w w') (hq : q < b) : LgF w' q A B :=
  h.eqv (hb.block q hq) fun k _ hk => hb.block k (by omega)
theorem LgF.run (h : LgF w q A B) (hl : Lg w' q bankM A') (hg : w.grownBy w' (some q)) (hk : HeadKept w w' q) : LgF w' q A' B := by
  have hq := h.lt
  obtain ⟨mk, mv, Hs, k1, _, k3⟩ := h
  obtain ⟨Hs', j1⟩ := hk mk mv Hs k1
  obtain ⟨mk2, mv2, Hs2, i1, i2, _⟩ := hl.ex
  rw [j1] at i1
  simp only [Option.some.injEq, Obj.cells.injEq, and_true] at i1
  obtain ⟨_, _, rfl⟩ := head_inj i1
  exact ⟨mk, mv, Hs', j1, i2, k3.eqv fun k _ hk => hg.block k (by omega) (by simp; omega)⟩
end
theorem bank_fm {w w' : World} {r : Ending} (h : NewFm w w' bank r) : ∃ q, r = .returned (.tuple #[.pointer (some ⟨q, 0, none⟩), .int .i64 0]) ∧ w.heap.size ≤ q ∧ LgF w' q (fun _ => (false, 0)) w.heap.size ∧ Below w.heap.size w w' := by
  rcases h with ⟨e, p, h0, h1, h2, h3⟩ | ⟨p, q, mk, mv, h1, h2, h3, h4, h5, h6⟩
  · exact absurd (bank_chk h1).1 h0
  · refine ⟨q, h2, h3, ⟨mk, mv, noHeld.toArray, ?_, ?_, ?_⟩, h6⟩
    · have := h4.b
      simpa using this
    · rw [noHeld_row]; exact rowOf_is _
    · rw [bank_md] at h5; exact h5

/-- what opened leaves. -/
def OpOut (w w' : World) (ds : List Dl) (e : Ending) : Prop :=
  ∃ q r A, e = .returned (.tuple #[.pointer (some ⟨q, 0, none⟩), .pointer (some ⟨r, 0, none⟩)]) ∧ LgF w' q A w.heap.size ∧ BkR w' r (booked ds ds.length) ∧ HoldsB A (booked ds ds.length) ∧ q < r ∧ w.heap.size ≤ q ∧ Below w.heap.size w w'

theorem book0 (w : World) : BkR (w.alloc (.cells #[.bool false, .bool false, .bool false, .bool false, .bool false, .bool false, .bool false, .bool false, .int .i64 0, .int .i64 0, .int .i64 0, .int .i64 0, .int .i64 0, .int .i64 0, .int .i64 0, .int .i64 0] 102)) w.heap.size Bk.none := by
  refine ⟨⟨_, heap_alloc_new w _, rfl, fun i hi => ?_⟩⟩
  have : i = 0 ∨ i = 1 ∨ i = 2 ∨ i = 3 ∨ i = 4 ∨ i = 5 ∨ i = 6 ∨ i = 7 := by omega
  rcases this with rfl | rfl | rfl | rfl | rfl | rfl | rfl | rfl <;> exact ⟨rfl, rfl⟩
theorem bank_is : Pu.isMd bankM = true := by kernel_rfl
theorem does_small (B : Bk) (what who to n : Nat) : (B.does what who to n).1.1.size ≤ maxLen := by
  unfold Bk.does
  split
  · exact (by decide : 12 ≤ maxLen)
  split
  · exact (by decide : 12 ≤ maxLen)
  split
  · exact (by decide : 12 ≤ maxLen)
  split
  · exact (by decide : 12 ≤ maxLen)
  split
  · exact (by decide : 12 ≤ maxLen)
  split
  · exact (by decide : 12 ≤ maxLen)
  split
  · exact (by decide : 14 ≤ maxLen)
  split
  · exact (by decide : 14 ≤ maxLen)
  · exact (by decide : 14 ≤ maxLen)

set_option maxRecDepth 100000 in
set_option maxHeartbeats 2000000 in
theorem opened_any (ds : List Dl) (v : Value) (w : World) (h : DealsR w w.heap.size v ds) (hn : ds.length ≤ maxLen) :
    Calls Try.prog 19 #[v] w fun e w' => OpOut w w' ds e := by
  obtain ⟨ao, cap, b, off, rfl, h1, h2⟩ := h
  have H1 := hid h1
  have H2 := hid h2
  clear h1 h2
  unfold maxLen at hn
  have CN := hid fun W => new_fm bank W (by decide)
  go_enter Try.func19, Try.ntmps19
  go_wp2_with fail
  refine (CN.out _).mono ?_
  rintro e w1 hN
  obtain ⟨q, rfl, hq, hL, hb1⟩ := bank_fm hN
  clear hN CN
  have B0 := book0 w1
  have al := (Below.refl w1.heap.size w1).alloc (Nat.le_refl _) (.cells #[.bool false, .bool false, .bool false, .bool false, .bool false, .bool false, .bool false, .bool false, .int .i64 0, .int .i64 0, .int .i64 0, .int .i64 0, .int .i64 0, .int .i64 0, .int .i64 0, .int .i64 0] 102)
  have hq1 := hL.lt
  have L0 := hL.below al hq1
  have b0 := hb1.trans (al.mono hb1.size)
  have hz1 := hb1.size
  clear hL al hb1
  go_wp2_with fail
  go_loopw [7] (fun i wr => ∃ (k : Nat) (A : Nat → Bool × Int), k ≤ ds.length ∧ i = .int .i64 k ∧ LgF wr q A w.heap.size ∧ BkR wr w1.heap.size (booked ds k) ∧ HoldsB A (booked ds k) ∧ Below w.heap.size w wr) (fun i _ => ds.length - (intOf i).toNat)
  case atStart => exact ⟨0, _, Nat.zero_le _, rfl, L0, B0, holds_none, b0⟩
  case round =>
    clear L0 B0 b0
    obtain ⟨k, A, hk, rfl, Lk, Bk', Hk, bk⟩ := hrel
    by_cases hlt : k < ds.length
    · obtain ⟨rfl, hbb⟩ := H1.out (by omega)
      obtain ⟨c0, c1, c2, c3, i1, i2, i3, i4⟩ := H2.out k hlt
      have d0 := (bk.cell (p := ⟨b, off + k * 4, none⟩) hbb).trans c0
      have d1 := (bk.cell (p := ⟨b, off + k * 4 + 1, none⟩) hbb).trans c1
      have d2 := (bk.cell (p := ⟨b, off + k * 4 + 2, none⟩) hbb).trans c2
      have d3 := (bk.cell (p := ⟨b, off + k * 4 + 3, none⟩) hbb).trans c3
      have HNX : Hid (booked ds (k + 1) = ((booked ds k).does (pk (ds.getD k ⟨0, 0, 0, 0⟩).what 3) (pk (ds.getD k ⟨0, 0, 0, 0⟩).who 8) (pk (ds.getD k ⟨0, 0, 0, 0⟩).to 10) (pk (ds.getD k ⟨0, 0, 0, 0⟩).n 256)).2) := hid rfl
      clear c0 c2 c3
      generalize ds.getD k ⟨0, 0, 0, 0⟩ = D at *
      obtain ⟨rwhat, rwho, rto, rn⟩ := D
      simp only at *
      obtain ⟨p1, l1⟩ := pk_is (c := rwhat) (n := 3) (by omega)
      obtain ⟨p2, l2⟩ := pk_is (c := rwho) (n := 8) (by omega)
      obtain ⟨p3, l3⟩ := pk_is (c := rto) (n := 10) (by omega)
      obtain ⟨p4, l4⟩ := pk_is (c := rn) (n := 256) (by omega)
      generalize pk rwhat 3 = what at *
      generalize pk rwho 8 = who at *
      generalize pk rto 10 = to at *
      generalize pk rn 256 = nn at *
      have CD := hid (does_any w1.heap.size (booked ds k) rwhat rwho rto rn what who to nn wr Bk' i1 i2 i3 i4 p1 p2 p3 p4 (by omega) (by omega) (by omega) (by omega))
      have CP := hid fun W => kpick_any rwho 8 i2 (by omega) W
      rw [p2] at CP
      have HDL : Hid (∀ A' e c u, RunSays bankM A ((booked ds k).does what who to nn).1.1 who 100 A' e c u → e = ((booked ds k).does what who to nn).1.2.1 ∧ c = 0 ∧ u = ((booked ds k).does what who to nn).1.2.2 ∧ HoldsB A' ((booked ds k).does what who to nn).2) := hid fun A' e c u hr => deal_ok Hk (by omega) (by omega) (by omega) (by omega) hr
      have hsm := does_small (booked ds k) what who to nn
      unfold DoesOut at CD
      generalize (booked ds k).does what who to nn = D at *
      obtain ⟨⟨SC, EE, UU⟩, B2⟩ := D
      simp only at *
      have hw0 : (0 : Int) ≤ who ∧ (who : Int) < 8 := by omega
      clear p1 p2 p3 p4 l1 l2 l3 l4 i1 i2 i3 i4 Hk Bk'
      go_wp2_with fail
      refine CD.out.mono ?_
      rintro e w3 ⟨rfl, hB3, g3⟩
      clear CD d0 d1 d2 d3
      have L3 := Lk.low g3 hq1
      have al3 := (Below.refl w3.heap.size w3).alloc (Nat.le_refl _) (.cells #[.int .i64 EE, .int .i64 0, .int .i64 UU] 52)
      have hq3 := L3.lt
      have hr3 := hB3.lt
      have L4 := L3.below al3 hq3
      have B4 := hB3.below al3 hr3
      have x4 : B3 (w3.alloc (.cells #[.int .i64 EE, .int .i64 0, .int .i64 UU] 52)) w3.heap.size 52 _ _ _ := heap_alloc_new w3 _
      have bk3 := bk.grown g3 bk.size (fun k hk => by cases hk; omega)
      have bk4 := bk3.trans (al3.mono bk3.size)
      have CR := hid (run_any q bankM A SC who 100 _ L4.lg bank_is hsm)
      have d1' := (bk4.cell (p := ⟨b, off + k * 4 + 1, none⟩) hbb).trans c1
      clear Lk L3 hB3 g3 al3 bk bk3
      go_wp2_with fail
      refine (CP.out _).mono ?_
      rintro e w4 ⟨rfl, rfl⟩
      go_wp2_with fail
      refine CR.out.mono ?_
      rintro e w5 ⟨A', e5, c5, u5, rfl, hS, L5', g5, hk5⟩
      have L5 := L4.run L5' g5 hk5
      obtain ⟨rfl, rfl, rfl, H5⟩ := HDL.out _ _ _ _ hS
      have B5 := B4.kept g5 (by simp; omega)
      have x5 : B3 w5 w3.heap.size 52 _ _ _ := (g5.block _ x4.lt (by simp; omega)).trans x4
      have bk5 := bk4.grown g5 bk4.size (fun k hk => by cases hk; omega)
      clear CR CP HDL hS g5 L4 B4 x4 bk4 d1' L5' hk5
      have hq5 := L5.lt
      have hr5 := B5.lt
      have o0 := x5.c0
      have o1 := x5.c1
      have o2 := x5.c2
      have hx5 := x5.lt
      rw [← HNX.out] at B5 H5
      have al5 := (Below.refl w5.heap.size w5).alloc (Nat.le_refl _) (.cells #[.int .i64 e5, .int .i64 0, .int .i64 u5] 52)
      have L6 := L5.below al5 hq5
      have B6 := B5.below al5 hr5
      have bk6 := bk5.trans (al5.mono bk5.size)
      clear L5 B5 bk5 al5 c1
      go_wp2
      go_roundw
      case rel => exact ⟨k + 1, A', hlt, by go_num, L6, B6, H5, bk6⟩
      case measure => simp [intOf]; omega
    · have hkl : k = ds.length := by omega
      have FIN : Hid (OpOut w wr ds (.returned (.tuple #[.pointer (some ⟨q, 0, none⟩), .pointer (some ⟨w1.heap.size, 0, none⟩)]))) := hid ⟨q, w1.heap.size, A, rfl, Lk, hkl ▸ Bk', hkl ▸ Hk, hq1, hq, bk⟩
      clear Lk Bk' Hk bk hkl
      go_wp2
      go_ret2
      exact FIN.out
end Go.Proofs.Ytjamgmbdilkbcaa

/- Kept, walked. -/
namespace Go.Proofs.Ytjamgmbdilkbcaa
open Go.RowKit

set_option maxRecDepth 100000 in
set_option maxHeartbeats 2000000 in
theorem kept_walk (ds : List Dl) (v : Value) (x : Int) (w : World) (h : DealsR w w.heap.size v ds) (hn : ds.length ≤ maxLen) (hx : I64 x) :
    Calls Try.prog 8 #[v, .int .i64 x] w fun e w' => e = .returned (.bool true) ∧ Below w.heap.size w w' := by
  have CO := hid (opened_any ds v w h hn)
  obtain ⟨p2, l2⟩ := pk_is (c := x) (n := 8) (by omega)
  have CP := hid fun W => kpick_any x 8 hx (by omega) W
  rw [p2] at CP
  generalize pk x 8 = who at *
  have hw : who < 8 := by omega
  clear p2 l2 h
  go_enter Try.func8, Try.ntmps8
  go_wp2_with fail
  refine CO.out.mono ?_
  rintro e w1 ⟨q, r, A, rfl, hLF, hB, hA, hqr, hq, hb⟩
  have hL := hLF.lg
  clear hLF
  clear CO
  go_wp2_with fail
  refine (CP.out _).mono ?_
  rintro e w2 ⟨rfl, rfl⟩
  clear CP
  go_wp2_with fail
  refine (holds_any q r A _ who _ hL hB hA hw).mono ?_
  rintro e w3 ⟨rfl, hb3⟩
  have L3 := hL.below hb3 hL.lt
  have B3' := hB.below hb3 hB.lt
  have b3 := hb.trans (hb3.mono hb.size)
  clear hL hB hb hb3
  go_wp2_with fail
  go_loopw [8] (fun i wr => ∃ k : Nat, k ≤ 8 ∧ i = .int .i64 k ∧ Lg wr q bankM A ∧ BkR wr r (booked ds ds.length) ∧ Below w.heap.size w wr) (fun i _ => 8 - (intOf i).toNat)
  case atStart => exact ⟨0, Nat.zero_le _, rfl, L3, B3', b3⟩
  case round =>
    clear L3 B3' b3
    obtain ⟨k, hk, rfl, Lk, Bk', bk⟩ := hrel
    by_cases hlt : k < 8
    · have C := hid (holds_any q r A _ k _ Lk Bk' hA hlt)
      go_wp2_with fail
      refine C.out.mono ?_
      rintro e w4 ⟨rfl, hb4⟩
      have L4 := Lk.below hb4 Lk.lt
      have B4 := Bk'.below hb4 Bk'.lt
      have b4 := bk.trans (hb4.mono bk.size)
      clear C Lk Bk' bk hb4
      go_wp2
      go_roundw
      case rel => exact ⟨k + 1, hlt, by go_num, L4, B4, b4⟩
      case measure => simp [intOf]; omega
    · have hk8 : k = 8 := by omega
      subst hk8
      have C := hid (amount_any q bankM A 0 2 wr Lk)
      rw [show ledAmount bankM A 0 2 = (0, 4) from rfl] at C
      clear Bk' Lk hlt hk
      rw [show ((8 : Nat) : Int) = (8 : Int) from rfl]
      go_wp2_with fail
      refine C.out.mono ?_
      rintro e w4 ⟨rfl, hb4⟩
      have b4 := bk.trans (hb4.mono bk.size)
      clear C bk hb4
      go_wp2
      go_ret
      exact ⟨rfl, b4⟩
end Go.Proofs.Ytjamgmbdilkbcaa

/- A run with less gas is a part of the run with more. No program here. -/
namespace Go.Proofs.Ytjamgmbdilkbcaa
open Go.RowKit Mc

/-- nothing was given up, or what was given up was not for gas. -/
structure Gd (V : Vm) : Prop where
  run : V.over = false → V.err = 0 ∧ V.code = 0
  done : V.over = true → V.err ≠ 5

theorem gd_giveUp {V : Vm} {e : Int} (he : e ≠ 5) : Gd (V.giveUp e) ∧ (V.giveUp e).used = V.used := ⟨⟨fun h => absurd h (by simp [Vm.giveUp]), fun _ => he⟩, rfl⟩
theorem gd_fs {V : Vm} (h : Gd V) (l : List Fv) (A : Nat → Bool × Int) : Gd { V with fs := l, acc := A } := ⟨h.run, h.done⟩
theorem look_n5 (A : Nat → Bool × Int) (a b : Int) : (lookS A a b).2 ≠ 5 := by unfold lookS; split <;> simp
theorem amount_n5 (A : Nat → Bool × Int) (a b : Int) : (amountS A a b).2 ≠ 5 := by
  unfold amountS
  split
  · exact look_n5 A a b
  · split <;> simp
theorem act_gd (m : Pu.Md) (who : Int) {V : Vm} (h : Gd V) (ho : V.over = false) (F : Fv) (fs : List Fv) (x : Int × Int) : Gd (Vm.act m who V F fs x) ∧ (Vm.act m who V F fs x).used = V.used := by
  unfold Vm.act
  split
  · split
    · exact ⟨⟨fun h => absurd h (by simp), fun _ => by show V.err ≠ 5; rw [(h.run ho).1]; decide⟩, rfl⟩
    · exact ⟨gd_fs h _ _, rfl⟩
  split
  · split
    · exact gd_giveUp (by decide)
    split
    · exact gd_giveUp (by decide)
    · exact ⟨gd_fs h _ _, rfl⟩
  split
  · split
    · exact gd_giveUp (by decide)
    · exact ⟨gd_fs h _ _, rfl⟩
  split
  · split
    · exact gd_giveUp (amount_n5 _ _ _)
    · exact ⟨gd_fs h _ _, rfl⟩
  split
  · split
    · exact gd_giveUp (look_n5 _ _ _)
    split
    · exact gd_giveUp (by decide)
    · exact ⟨gd_fs h _ _, rfl⟩
  split
  · split
    · exact gd_giveUp (look_n5 _ _ _)
    · exact ⟨gd_fs h _ _, rfl⟩
  split
  · exact ⟨⟨fun h => absurd h (by simp [Vm.giveUp]), fun _ => by show (10 : Int) ≠ 5; decide⟩, rfl⟩
  · exact ⟨gd_fs h _ _, rfl⟩
theorem step_gd (m : Pu.Md) (who : Int) {V : Vm} (h : Gd V) (ho : V.over = false) : Gd (Vm.step m who V) ∧ (Vm.step m who V).used = V.used := by
  unfold Vm.step
  split
  · exact gd_giveUp (by decide)
  · split
    · exact gd_giveUp (by decide)
    · exact act_gd m who h ho _ _ _
theorem tick_gd {V : Vm} (h : Gd V) : Gd V.tick := ⟨h.run, h.done⟩

theorem vgo_over (m : Pu.Md) (who gas : Int) {V : Vm} (h : V.over = true ∨ ¬ V.used < gas) : ∀ n, Vm.go m who gas n V = V
  | 0 => rfl
  | n + 1 => by unfold Vm.go; rw [if_pos h]
theorem vgo_more (m : Pu.Md) (who gas : Int) (n : Nat) {V : Vm} (h : V.over = false) (hu : V.used < gas) : Vm.go m who gas (n + 1) V = Vm.go m who gas n (V.tick.step m who) := by
  show (if V.over = true ∨ ¬ V.used < gas then V else Vm.go m who gas n (V.tick.step m who)) = _
  rw [if_neg (by rw [h]; simp; exact hu)]

theorem vgo_used (m : Pu.Md) (who gas : Int) : ∀ (n : Nat) {V : Vm}, Gd V → V.used ≤ (Vm.go m who gas n V).used ∧ Gd (Vm.go m who gas n V)
  | 0, _, h => ⟨Int.le_refl _, h⟩
  | n + 1, V, h => by
    by_cases hc : V.over = true ∨ ¬ V.used < gas
    · rw [vgo_over m who gas hc]; exact ⟨Int.le_refl _, h⟩
    · have ho : V.over = false := by simpa using fun e => hc (.inl e)
      have hu : V.used < gas := by omega
      rw [vgo_more m who gas n ho hu]
      have s := step_gd m who (tick_gd h) ho
      have k := vgo_used m who gas n s.1
      refine ⟨?_, k.2⟩
      have h1 := k.1
      rw [s.2] at h1
      have h2 : V.tick.used = V.used + 1 := rfl
      omega
/-- all the gas is used, or the run is over. -/
theorem vgo_end (m : Pu.Md) (who gas : Int) : ∀ (n : Nat) {V : Vm}, Gd V → V.used ≤ gas → (gas - V.used).toNat ≤ n → (Vm.go m who gas n V).used ≤ gas ∧ ((Vm.go m who gas n V).over = false → (Vm.go m who gas n V).used = gas)
  | 0, V, _, h1, h2 => ⟨h1, fun _ => by show V.used = gas; omega⟩
  | n + 1, V, h, h1, h2 => by
    by_cases hc : V.over = true ∨ ¬ V.used < gas
    · rw [vgo_over m who gas hc]
      refine ⟨h1, fun ho => ?_⟩
      rcases hc with hc | hc
      · rw [ho] at hc; exact absurd hc (by decide)
      · omega
    · have ho : V.over = false := by simpa using fun e => hc (.inl e)
      have hu : V.used < gas := by omega
      rw [vgo_more m who gas n ho hu]
      have s := step_gd m who (tick_gd h) ho
      have h3 : V.tick.used = V.used + 1 := rfl
      exact vgo_end m who gas n s.1 (by rw [s.2]; omega) (by rw [s.2]; omega)
theorem vgo_two (m : Pu.Md) (who : Int) {g G : Int} (hG : g ≤ G) : ∀ (n N : Nat) {V : Vm}, Gd V → V.used ≤ g → (g - V.used).toNat = n → (G - V.used).toNat = N →
    ((Vm.go m who g n V).over = true ∧ Vm.go m who G N V = Vm.go m who g n V) ∨ ((Vm.go m who g n V).over = false ∧ (g < (Vm.go m who G N V).used ∨ (Vm.go m who G N V).over = false))
  | 0, N, V, h, hu, hn, hN => by
    show (V.over = true ∧ Vm.go m who G N V = V) ∨ (V.over = false ∧ _)
    cases ho : V.over with
    | true => exact .inl ⟨rfl, vgo_over m who G (.inl ho) N⟩
    | false =>
      refine .inr ⟨rfl, ?_⟩
      by_cases hlt : V.used < G
      · obtain ⟨N', rfl⟩ : ∃ N', N = N' + 1 := ⟨N - 1, by omega⟩
        rw [vgo_more m who G N' ho hlt]
        have s := step_gd m who (tick_gd h) ho
        have k := vgo_used m who G N' s.1
        have h1 := k.1
        rw [s.2] at h1
        have h2 : V.tick.used = V.used + 1 := rfl
        exact .inl (by omega)
      · rw [vgo_over m who G (.inr hlt)]; exact .inr ho
  | n + 1, N, V, h, hu, hn, hN => by
    have hlt : V.used < g := by omega
    obtain ⟨N', rfl⟩ : ∃ N', N = N' + 1 := ⟨N - 1, by omega⟩
    cases ho : V.over with
    | true =>
      rw [vgo_over m who g (.inl ho), vgo_over m who G (.inl ho)]
      exact .inl ⟨ho, rfl⟩
    | false =>
      rw [vgo_more m who g n ho hlt, vgo_more m who G N' ho (by omega)]
      have s := step_gd m who (tick_gd h) ho
      have h3 : V.tick.used = V.used + 1 := rfl
      exact vgo_two m who hG n N' s.1 (by rw [s.2]; omega) (by rw [s.2]; omega) (by rw [s.2]; omega)

theorem gd_start (f : Pu.Fn) (A : Nat → Bool × Int) : Gd (Vm.start f A) := ⟨fun _ => ⟨rfl, rfl⟩, fun h => absurd h (by simp [Vm.start])⟩

/-- a run with all the gas, and with some. -/
theorem runV_gas (m : Pu.Md) (f : Pu.Fn) (A : Nat → Bool × Int) (who : Int) {g G : Int} (h0 : 0 ≤ g) (hG : g ≤ G) :
    (((runV m f A who G).used > g ∨ (runV m f A who G).err = 5) → (runV m f A who g).err = 5 ∧ (runV m f A who g).code = 0 ∧ (runV m f A who g).used = g) ∧
    (¬ ((runV m f A who G).used > g ∨ (runV m f A who G).err = 5) → runV m f A who g = runV m f A who G) := by
  have hu : (Vm.start f A).used = 0 := rfl
  have two := vgo_two m who hG g.toNat G.toNat (gd_start f A) (by omega) (by omega) (by omega)
  have e1 := vgo_end m who g g.toNat (gd_start f A) (by omega) (by omega)
  have u1 := vgo_used m who g g.toNat (gd_start f A)
  have u2 := vgo_used m who G G.toNat (gd_start f A)
  unfold runV Vm.goOn
  generalize Vm.go m who g g.toNat (Vm.start f A) = R at *
  generalize Vm.go m who G G.toNat (Vm.start f A) = S at *
  rcases two with ⟨a1, rfl⟩ | ⟨a1, a2⟩
  · rw [if_pos a1]
    refine ⟨fun h => ?_, fun _ => rfl⟩
    rcases h with h | h
    · have := e1.1; omega
    · exact absurd h (u1.2.done a1)
  · have hR : (if R.over = true then R else R.giveUp 5) = R.giveUp 5 := if_neg (by rw [a1]; decide)
    rw [hR]
    obtain ⟨_, r2⟩ := u1.2.run a1
    refine ⟨fun _ => ⟨rfl, r2, e1.2 a1⟩, fun h => ?_⟩
    exfalso
    apply h
    rcases a2 with a2 | a2
    · left
      split
      · exact a2
      · exact a2
    · right
      rw [if_neg (by rw [a2]; decide)]
      rfl
end Go.Proofs.Ytjamgmbdilkbcaa
