/- Held.encode. -/
import Derived.Test.YtjamgmbdilkbcaaLent9
import Derived.Test.YtjamgmbdilkbcaaEnc4
import Derived.Test.YtjamgmbdilkbcaaDec2
namespace Go.Proofs.Ytjamgmbdilkbcaa
open Go.RowKit

/-- a module, all of whose lists are not too great. -/
def Fair (m : Pu.Md) : Prop := m.kinds.length ≤ 1048576 ∧ m.funcs.length ≤ 1048576 ∧ ∀ f ∈ m.funcs, f.params.length ≤ 1048576 ∧ f.results.length ≤ 1048576 ∧ f.locals.length ≤ 1048576 ∧ f.code.length ≤ 1048576

theorem Fair.le {m : Pu.Md} (h : Fair m) {N : Nat} (hN : 1048576 ≤ N) : m.kinds.length ≤ N ∧ m.funcs.length ≤ N ∧ ∀ f ∈ m.funcs, f.params.length ≤ N ∧ f.results.length ≤ N ∧ f.locals.length ≤ N ∧ f.code.length ≤ N := by
  obtain ⟨h1, h2, h3⟩ := h
  exact ⟨by omega, by omega, fun f hf => by have := h3 f hf; omega⟩

def EncOut (w w' : World) (B ph K : Nat) (e : Ending) : Prop := e = .returned (.bool true) ∧ (∃ S', Hd w' B ph S' K) ∧ Below B w w'

/-- what stands while Encode is called. -/
structure EB (w W0 wr : World) (B ph K gk gf : Nat) (vi vc kv vv : Value) (m : Pu.Md) (D : List (Nat × Nat × Nat × Nat)) (ms : List FV) (M : Nat → Prop) : Prop where
  s : LS wr W0.heap.size (W0.heap.size + 1) (front gk m.kinds.length) (front gf m.funcs.length) vi vc (sl gf m.funcs.length) ((gk, m.kinds) :: Rof m.funcs D) (Cof m.funcs D)
  ro : wr.ownsRow W0.heap.size 86 4 (sl gf m.funcs.length) (m.funcs.length + 2) (fc (lfvs m.funcs D ++ ms))
  ms : ∀ f ∈ ms, MarkedF wr M f ink
  hd : Hd wr B ph (fun k => k < W0.heap.size) K
  hx : MdR wr wr.heap.size (front gk m.kinds.length) (front gf m.funcs.length) m
  hm : MdR wr wr.heap.size kv vv m
  bx : F2 wr w.heap.size 33 kv vv
  bl : Below w.heap.size w wr

theorem EB.below {w W0 wr w' : World} {B ph K gk gf : Nat} {vi vc kv vv : Value} {m : Pu.Md} {D : List (Nat × Nat × Nat × Nat)} {ms : List FV} {M : Nat → Prop} (h : EB w W0 wr B ph K gk gf vi vc kv vv m D ms M) (hb : Below wr.heap.size wr w') : EB w W0 w' B ph K gk gf vi vc kv vv m D ms M :=
  ⟨h.s.below hb, owns_below h.ro hb, fun f hf => (h.ms f hf).below hb, h.hd.below hb, (h.hx.below hb).wide hb.size, (h.hm.below hb).wide hb.size, (hb.block _ h.bx.lt).trans h.bx, h.bl.trans (hb.mono h.bl.size)⟩

set_option maxRecDepth 100000 in
set_option maxHeartbeats 2000000 in
theorem hencode_any (m : Pu.Md) (kv vv : Value) (B ph K : Nat) (S : Nat → Prop) (w : World) (hd : Hd w B ph S K) (hm : MdR w B kv vv m) (hfair : Fair m) (hK : K ≤ 900000000) :
    Calls Try.prog 13 #[.pointer (some ⟨ph, 0, none⟩), .agg #[kv, vv]] w fun e w' => EncOut w w' B ph (K + 16 * m.funcs.length + 8) e := by
  have hBp := hd.lt
  have hBw : B ≤ w.heap.size := by omega
  obtain ⟨a1, c1, rfl⟩ := hm.k.shape
  obtain ⟨a2, c2, rfl⟩ := hm.v.shape
  obtain ⟨W0, hW0⟩ : ∃ W0, W0 = w.alloc (.cells #[.slice a1 m.kinds.length c1, .slice a2 m.funcs.length c2] 33) := ⟨_, rfl⟩
  have hbw : Below w.heap.size w W0 := by rw [hW0]; exact (Below.refl w.heap.size w).alloc (Nat.le_refl _) _
  have bx0 : F2 W0 w.heap.size 33 (.slice a1 m.kinds.length c1) (.slice a2 m.funcs.length c2) := by rw [hW0]; exact heap_alloc_new w _
  have hd0 := hd.below hbw
  have hmw := ((hm.wide hBw).below hbw).wide hbw.size
  have HW0 : Hid _ := hW0
  clear hd hm hW0
  have f15 := hfair.le (N := 1500000) (by omega)
  have f14 := hfair.le (N := 1400000) (by omega)
  have fmx := hfair.le (N := maxLen) (by unfold maxLen; omega)
  have hn := hfair.2.1
  have HF15 : Hid _ := f15
  have HF14 : Hid _ := f14
  have HFM : Hid _ := fmx
  have HFC : Hid (∀ f ∈ m.funcs, f.code.length ≤ 1048576) := fun f hf => (hfair.2.2 f hf).2.2.2
  clear f15 f14 fmx hfair
  go_enter Try.func13, Try.ntmps13
  go_wp2_with fail
  rw [← HW0.out]
  refine (lend_any m _ _ W0 hmw HF15.out.1 HF15.out.2.1 HF15.out.2.2).mono ?_
  rintro e w1 ⟨rfl, gk, gf, vi, vc, D, ms, s1, hD, ro1, hml, hms1, hb1⟩
  have hd1 := (hd0.more (S' := fun k => k < W0.heap.size) (fun k h _ => h)).below hb1
  have hm1 := hmw.below hb1
  have hx1 := lent_reads s1 hD ro1 HFM.out.1 HFM.out.2.1 HFM.out.2.2
  have bx1 : F2 w1 w.heap.size 33 _ _ := (hb1.block w.heap.size bx0.lt).trans bx0
  have hbw1 := hbw.trans (hb1.mono hbw.size)
  have d0 := s1.h.c0
  have d1 := s1.h.c1
  unfold front at d0 d1
  have HD : Hid _ := hD
  have HML : Hid _ := hml
  have E1 : EB w W0 w1 B ph K gk gf vi vc (.slice a1 m.kinds.length c1) (.slice a2 m.funcs.length c2) m D ms _ := ⟨s1, ro1, hms1, hd1, hx1, hm1.wide hb1.size, bx1, hbw1⟩
  have hzW : B ≤ W0.heap.size := Nat.le_trans hBw hbw.size
  clear hD hml hd0 hmw bx0 hbw HW0 s1 ro1 hms1 hd1 hx1 hm1 bx1 hbw1 hb1
  generalize hpe : Pu.encode m = pe
  have HPE : Hid _ := hpe
  go_wp2_with fail
  clear d0 d1
  refine (encode_any m _ _ w1 E1.hx).mono ?_
  rintro e w2 ⟨rfl, hb2⟩
  rw [HPE.out]
  have E2 := E1.below hb2
  clear E1 hb2
  have b0 := E2.bx.c0
  have b1 := E2.bx.c1
  go_wp2_with fail
  clear b0 b1
  refine (rencode_any m _ _ w2 E2.hm HFC.out).mono ?_
  rintro e w3 ⟨rfl, hb3⟩
  rw [Pu.renc_eq, HPE.out]
  have E3 := E2.below hb3
  clear E2 hb3
  have b0 := E3.bx.c0
  have b1 := E3.bx.c1
  go_wp2_with fail
  clear b0 b1
  refine (still_any _ _ _ _ _ _ _ _ m D ms _ w3 E3.s HD.out E3.ro HML.out E3.ms E3.hx E3.hm HF15.out.1 HF15.out.2.1 HF15.out.2.2).mono ?_
  rintro e w4 ⟨rfl, hb4⟩
  have E4 := E3.below hb4
  clear E3 hb4
  go_wp2_with fail
  refine (lent_any B W0.heap.size ph _ K _ _ _ _ m D ms _ w4 E4.hd E4.s HD.out E4.ro hzW (fun j hj => hj) HF14.out.1 HF14.out.2.1 HF14.out.2.2 (by omega)).mono ?_
  rintro e w5 ⟨rfl, hd5, hb5⟩
  have hbf : Below B w w5 := (E4.bl.mono hBw).trans hb5
  have HD5 : Hid _ := hd5
  clear E4 hb5 hd5
  obtain ⟨pb, pn⟩ := pe
  go_wp2_with fail
  refine (num_any pn _).mono ?_
  rintro e w6 ⟨rfl, rfl⟩
  go_wp2
  go_ret
  exact ⟨rfl, HD5.out, hbf⟩
end Go.Proofs.Ytjamgmbdilkbcaa
