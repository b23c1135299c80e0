/- The walks of wire's writer: module, WriteModule; coffer.Encode. -/
import Derived.Test.YtjamgmbdilkbcaaWrite6
import Derived.Laws.BytesString
import Derived.Laws.IdiomStrings
namespace Go.Proofs.Ytjamgmbdilkbcaa
open Go.RowKit

theorem isList_mem {l : List Int} {most hi : Int} (h : Pu.isList l most hi = true) : (l.length : Int) ≤ most ∧ ∀ x ∈ l, 0 ≤ x ∧ x ≤ hi := by
  simp only [Pu.isList, Bool.and_eq_true, decide_eq_true_eq, List.all_eq_true] at h
  exact ⟨h.1, fun x hx => h.2 x hx⟩

theorem argHi_le (ki fu pl n op : Int) (hki : ki ≤ 255) (hfu : fu ≤ 255) (hpl : pl ≤ 255) (hn : n ≤ 255) : Pu.argHi ki fu pl n op ≤ 255 := by
  unfold Pu.argHi
  repeat' split
  all_goals omega

theorem argLo_ge (op : Int) : 0 ≤ Pu.argLo op := by
  unfold Pu.argLo
  split <;> omega

/-- what a sound function's numbers are. -/
theorem isFn_mem {f : Pu.Fn} {ki fu : Int} (h : Pu.isFn f ki fu = true) (hki : ki ≤ 6) (hfu : fu ≤ 8) :
    f.params.length ≤ 4 ∧ f.results.length ≤ 3 ∧ f.locals.length ≤ 4 ∧ f.code.length ≤ 100 ∧ 1 ≤ f.code.length ∧
    (∀ y ∈ f.params, 0 ≤ y ∧ y ≤ ki) ∧ (∀ y ∈ f.results, 0 ≤ y ∧ y ≤ ki) ∧ (∀ y ∈ f.locals, 0 ≤ y ∧ y ≤ ki) ∧ (∀ y ∈ f.code, (0 ≤ y.1 ∧ y.1 ≤ 18) ∧ (0 ≤ y.2 ∧ y.2 ≤ 255)) := by
  simp only [Pu.isFn, Bool.and_eq_true, decide_eq_true_eq] at h
  obtain ⟨h1, h2, h3, h4, h5, h6⟩ := h
  have k1 := isList_mem h1
  have k2 := isList_mem h2
  have k3 := isList_mem h3
  refine ⟨by omega, by omega, by omega, h5, h4, k1.2, k2.2, k3.2, fun y hy => ?_⟩
  simp only [Pu.isCode, List.all_eq_true] at h6
  have := h6 y hy
  simp only [Pu.isInstr, Bool.and_eq_true, decide_eq_true_eq] at this
  obtain ⟨⟨⟨g1, g2⟩, g3⟩, g4⟩ := this
  have e1 := argHi_le ki fu ((f.params.length : Int) + (f.locals.length : Int)) f.code.length y.1 (by omega) (by omega) (by omega) (by omega)
  have e2 := argLo_ge y.1
  exact ⟨⟨g1, g2⟩, by omega, by omega⟩

theorem wList_len (l : List Int) : (Pu.wList l).length = l.length + 1 := by simp [Pu.wList]
theorem wCode_len (l : List (Int × Int)) : (Pu.wCode l).length = l.length * 2 := by
  induction l with
  | nil => rfl
  | cons a l ih => simp [Pu.wCode] at ih ⊢; omega
theorem wFn_len (f : Pu.Fn) : (Pu.wFn f).length = f.params.length + f.results.length + f.locals.length + f.code.length * 2 + 4 := by
  simp only [Pu.wFn, List.length_append, List.length_cons, wList_len, wCode_len]
  omega

theorem wFns_take (l : List Pu.Fn) (k : Nat) (hlt : k < l.length) (d : Pu.Fn) : Pu.wFns (l.take (k + 1)) = Pu.wFns (l.take k) ++ Pu.wFn (l.getD k d) := by
  have e : l.getD k d = l[k] := by simp [List.getD_eq_getElem?_getD, hlt]
  rw [e, List.take_succ_eq_append_getElem hlt]
  simp only [Pu.wFns, List.flatMap_append, List.flatMap_cons, List.flatMap_nil, List.append_nil]

theorem wFns_len_le (l : List Pu.Fn) (h : ∀ f ∈ l, (Pu.wFn f).length ≤ 215) : (Pu.wFns l).length ≤ l.length * 215 := by
  induction l with
  | nil => simp [Pu.wFns]
  | cons a l ih =>
    have h1 := h a (by simp)
    have h2 := ih (fun f hf => h f (by simp [hf]))
    simp [Pu.wFns] at h2 ⊢
    omega

set_option maxHeartbeats 1000000 in
theorem wmodule_any (m : Pu.Md) (kv vv : Value) (B p : Nat) (w : World) (h : Wr w B p []) (hm : MdR w B kv vv m) (hok : Pu.isMd m = true) :
    Calls Try.prog 80 #[.pointer (some ⟨p, 0, none⟩), .agg #[kv, vv]] w fun e w' => e = .returned (.tuple #[]) ∧ Wr w' B p (Pu.wMd m) ∧ Below B w w' ∧ WF p w w' := by
  obtain ⟨a1, c1, rfl⟩ := hm.k.shape
  obtain ⟨a2, c2, rfl⟩ := hm.v.shape
  have hpl := h.lt
  have hB := h.le
  simp only [Pu.isMd, Bool.and_eq_true, decide_eq_true_eq, List.all_eq_true] at hok
  obtain ⟨q1, q2, q3, q4⟩ := hok
  have q5 := isList_mem q1
  have hkl : m.kinds.length ≤ 6 := by omega
  have K1 : Hid (∀ x ∈ m.kinds, 0 ≤ x ∧ x ≤ 255) := fun x hx => by have := q5.2 x hx; omega
  have FM : Hid _ := fun f hf => isFn_mem (q4 f hf) (by omega) (by omega)
  clear q1 q5 q4
  have hk0 : F2 (w.alloc (.cells #[.slice a1 m.kinds.length c1, .slice a2 m.funcs.length c2] 33)) w.heap.size 33 (.slice a1 m.kinds.length c1) (.slice a2 m.funcs.length c2) := heap_alloc_new w _
  have hb0 := (Below.refl B w).alloc (by omega) (.cells #[.slice a1 m.kinds.length c1, .slice a2 m.funcs.length c2] 33)
  have hf0 := (WF.refl p w).alloc (.cells #[.slice a1 m.kinds.length c1, .slice a2 m.funcs.length c2] 33)
  have hw0 := h.none (World.grownBy_alloc w (.cells #[.slice a1 m.kinds.length c1, .slice a2 m.funcs.length c2] 33) none)
  have hm0 := hm.below hb0
  clear h hm
  go_enter Try.func80, Try.ntmps80
  go_wp2_with fail
  refine (wnumber_any 67 B p [] _ hw0 (by simp) (by omega) (by omega)).mono ?_
  rintro e w1 ⟨rfl, hw1, hb, hf⟩
  have hm1 := hm0.below hb
  have hk1 := hk0.wf hf (by omega)
  have hb1 := hb0.trans hb
  have hf1 := hf0.trans hf
  clear hw0 hm0 hb0 hf0 hb hf hk0
  go_wp2_with fail
  refine (wnumber_any 70 B p _ _ hw1 (by simp) (by omega) (by omega)).mono ?_
  rintro e w2 ⟨rfl, hw2, hb, hf⟩
  have hm2 := hm1.below hb
  have hk2 := hk1.wf hf (by omega)
  have hb2 := hb1.trans hb
  have hf2 := hf1.trans hf
  clear hw1 hm1 hb1 hf1 hb hf hk1
  have d0 := hk2.c0
  go_wp2_with fail
  clear d0
  refine (wlist_any m.kinds _ B p _ _ hw2 hm2.k (by simp) (by omega) K1.out).mono ?_
  rintro e w3 ⟨rfl, hw3, hb, hf⟩
  have hm3 := hm2.below hb
  have hk3 := hk2.wf hf (by omega)
  have hb3 := hb2.trans hb
  have hf3 := hf2.trans hf
  clear hw2 hm2 hb2 hf2 hb hf hk2
  have d0 := hk3.c1
  go_wp2_with fail
  clear d0
  refine (wnumber_any m.funcs.length B p _ _ hw3 (by simp [wList_len]; omega) (by omega) (by omega)).mono ?_
  rintro e w4 ⟨rfl, hw4, hb, hf⟩
  have hm4 := (hm3.below hb).v
  have hk4 := hk3.wf hf (by omega)
  have hb4 := hb3.trans hb
  have hf4 := hf3.trans hf
  clear hw3 hm3 hb3 hf3 hb hf hk3
  obtain ⟨ao, cap, b, off, hav, h1, h2⟩ := hm4
  simp only [Value.slice.injEq, true_and] at hav
  obtain ⟨rfl, rfl⟩ := hav
  obtain ⟨rfl, hbB⟩ := h1 (by omega)
  have H2 : Hid _ := h2
  clear h1 h2
  go_wp2
  go_loopw [4] (fun i wr => ∃ k : Nat, k ≤ m.funcs.length ∧ i = .int .i64 k ∧ Wr wr B p ([Pu.byte 67] ++ [Pu.byte 70] ++ Pu.wList m.kinds ++ [Pu.byte m.funcs.length] ++ Pu.wFns (m.funcs.take k)) ∧ Below B w wr ∧ WF p w wr ∧ Below B w4 wr ∧
      F2 wr w.heap.size 33 (.slice a1 m.kinds.length c1) (.slice (some ⟨b, off, none⟩) m.funcs.length c2)) (fun i _ => m.funcs.length - (intOf i).toNat)
  case atStart => exact ⟨0, Nat.zero_le _, rfl, by simpa [Pu.wFns] using hw4, hb4, hf4, Below.refl _ _, hk4⟩
  case round =>
    obtain ⟨k, hk, rfl, hw, hb, hf, hbb, hkk⟩ := hrel
    clear hw4 hb4 hf4 hk4
    have d1 := hkk.c1
    by_cases hlt : k < m.funcs.length
    · obtain ⟨x, g0, g1, g2, g3, hx⟩ := H2.out k hlt
      obtain ⟨x1, y1, x2, y2, x3, y3, x4, y4, rfl⟩ := hx.shape
      have k0 := (hbb.cell (p := ⟨b, off + k * 4, none⟩) hbB).trans g0
      have k1 := (hbb.cell (p := ⟨b, off + k * 4 + 1, none⟩) hbB).trans g1
      have k2 := (hbb.cell (p := ⟨b, off + k * 4 + 2, none⟩) hbB).trans g2
      have k3 := (hbb.cell (p := ⟨b, off + k * 4 + 3, none⟩) hbB).trans g3
      have hxr := hx.below hbb
      have hin := FM.out (m.funcs.getD k ⟨[], [], [], []⟩) (by rw [List.getD_eq_getElem?_getD, List.getElem?_eq_getElem hlt]; exact List.getElem_mem hlt)
      have HT : Hid _ := wFns_take m.funcs k hlt ⟨[], [], [], []⟩
      have hlen : (Pu.wFns (m.funcs.take k)).length ≤ 1720 := by
        have h1 := wFns_len_le (m.funcs.take k) (fun f hf => by
          have := FM.out f (List.mem_of_mem_take hf)
          rw [wFn_len]; omega)
        rw [List.length_take] at h1; omega
      clear g0 g1 g2 g3 hx
      generalize m.funcs.getD k ⟨[], [], [], []⟩ = f at *
      have HI : Hid _ := hin
      clear hin
      simp only at *
      go_wp2_with fail
      refine (wfunction_any f ⟨.slice x1 f.params.length y1, .slice x2 f.results.length y2, .slice x3 f.locals.length y3, .slice x4 f.code.length y4⟩ B p _ _ hw hxr (by simp [wList_len]; omega) (by have := HI.out; omega) (by have := HI.out; omega) (by have := HI.out; omega) (by have := HI.out; omega) (fun y hy => by have := HI.out.2.2.2.2.2.1 y hy; omega) (fun y hy => by have := HI.out.2.2.2.2.2.2.1 y hy; omega) (fun y hy => by have := HI.out.2.2.2.2.2.2.2.1 y hy; omega) (fun y hy => by have := HI.out.2.2.2.2.2.2.2.2 y hy; omega)).mono ?_
      rintro e w5 ⟨rfl, hw5, hbn, hfn⟩
      have hb5 := hb.trans hbn
      have hf5 := hf.trans hfn
      have hbb5 := hbb.trans hbn
      have hk5 := hkk.wf hfn (by omega)
      clear hw hb hf hbb hkk d1 hbn hfn k0 k1 k2 k3 hxr
      go_wp2
      go_roundw
      case rel => exact ⟨k + 1, hlt, by go_num, by rw [HT.out]; simpa using hw5, hb5, hf5, hbb5, hk5⟩
      case measure => simp [intOf]; omega
    · go_wp2
      go_end0
      refine ⟨rfl, ?_, hb, hf⟩
      rw [List.take_of_length_le (by omega)] at hw
      simpa [Pu.wMd, show Pu.byte 67 = 67 from by decide, show Pu.byte 70 = 70 from by decide] using hw

/-- the writer's bytes as a string. -/
theorem wr_string {w : World} {B : Nat} {v : Value} {l : List UInt8} (h : w.ownsRow B 5 1 v l.length (bv l)) : (convert 122 9 v).run Try.prog w = .ok (.string ⟨l.toArray⟩) w := by
  rcases h.2 with ⟨rfl, hl⟩ | ⟨g, cap, cur, rfl, _⟩
  · have : l = [] := List.eq_nil_of_length_eq_zero hl
    subst this
    rw [run_convert_bytes_string w 122 9 5 none 0 0 Try.underlying122 Try.underlying5 Try.underlying9]
    rfl
  · have hc := h.cells (g := g) rfl
    refine run_convert_bytes_back w 122 9 5 ⟨g, 0, none⟩ cap l Try.underlying122 Try.underlying5 Try.underlying9 (fun j hj => hc j _ ?_)
    simp [bv, hj]

set_option maxRecDepth 100000 in
set_option maxHeartbeats 1000000 in
theorem writeModule_any (m : Pu.Md) (kv vv : Value) (w : World) (hm : MdR w w.heap.size kv vv m) :
    Calls Try.prog 45 #[.agg #[kv, vv]] w fun e w' => e = .returned (.tuple #[.string ⟨(Pu.encode m).1.toArray⟩, .int .i64 (Pu.encode m).2]) ∧ Below w.heap.size w w' := by
  obtain ⟨a1, c1, rfl⟩ := hm.k.shape
  obtain ⟨a2, c2, rfl⟩ := hm.v.shape
  have hk0 : F2 (w.alloc (.cells #[.slice a1 m.kinds.length c1, .slice a2 m.funcs.length c2] 33)) w.heap.size 33 (.slice a1 m.kinds.length c1) (.slice a2 m.funcs.length c2) := heap_alloc_new w _
  have hb0 := (Below.refl w.heap.size w).alloc (Nat.le_refl _) (.cells #[.slice a1 m.kinds.length c1, .slice a2 m.funcs.length c2] 33)
  have hm0 := hm.below hb0
  have hms0 := hm0.wide (B' := (w.alloc (.cells #[.slice a1 m.kinds.length c1, .slice a2 m.funcs.length c2] 33)).heap.size) (by simp)
  clear hm
  cases hok : Pu.isMd m with
  | false =>
    have HE : Hid (Pu.encode m = ([], 2)) := by show _ = _; simp [Pu.encode, hok]
    have HK : Hid _ := hok
    clear hok
    go_enter Try.func45, Try.ntmps45
    go_wp2_with fail
    refine (isModule_any m _ _ _ hms0).mono ?_
    rintro e w1 ⟨rfl, hb⟩
    rw [HK.out]
    have hb1 := hb0.trans (hb.mono (by simp))
    clear hm0 hms0 hb hk0
    go_wp2
    go_ret2
    rw [HE.out]
    exact ⟨rfl, hb1⟩
  | true =>
    have HK : Hid _ := hok
    have HE : Hid (Pu.encode m = if 1500 < (Pu.wMd m).length then ([], 1) else (Pu.wMd m, 0)) := by show _ = _; simp [Pu.encode, hok]
    clear hok
    go_enter Try.func45, Try.ntmps45
    go_wp2_with fail
    refine (isModule_any m _ _ _ hms0).mono ?_
    rintro e w1 ⟨rfl, hb⟩
    rw [HK.out]
    have hb1 := hb0.trans (hb.mono (by simp))
    have hm1 := hm0.below (hb.mono (by simp))
    have hk1 : F2 w1 w.heap.size 33 (.slice a1 m.kinds.length c1) (.slice a2 m.funcs.length c2) := (hb.block w.heap.size (by simp)).trans hk0
    have hz1 := hk1.lt
    clear hm0 hms0 hb hk0 hb0
    have hwr : Wr (w1.alloc (.cells #[.slice none 0 0] 146)) w1.heap.size w1.heap.size [] := ⟨.slice none 0 0, heap_alloc_new w1 _, World.ownsRow_nil _ _ _ _, Nat.le_refl _⟩
    have hb2 := hb1.alloc (by omega) (.cells #[.slice none 0 0] 146)
    have hm2 := (hm1.below ((Below.refl w.heap.size w1).alloc (by omega) (.cells #[.slice none 0 0] 146))).wide (B' := w1.heap.size) (by omega)
    have hk2 := hk1.kept (World.grownBy_alloc w1 (.cells #[.slice none 0 0] 146) none) (by simp)
    have d0 := hk2.c0
    have d1 := hk2.c1
    clear hk1 hb1 hm1
    go_wp2_with fail
    clear d0 d1
    refine (wmodule_any m _ _ w1.heap.size w1.heap.size _ hwr hm2 HK.out).mono ?_
    rintro e w3 ⟨rfl, hw3, hb, hf⟩
    have hb3 := hb2.trans (hb.mono (by omega))
    clear hwr hb2 hm2 hk2 hb hf
    obtain ⟨v, g1, g2, g3⟩ := hw3
    have hcv := wr_string g2
    obtain ⟨ao, cap, rfl⟩ := owns_shape g2
    have c0 : w3.cell? ⟨w1.heap.size, 0, none⟩ = some (.slice ao (Pu.wMd m).length cap) := by simp [World.cell?, g1]
    clear g1 g2 g3
    generalize Pu.wMd m = l at *
    by_cases hl : 1500 < l.length
    · clear hcv
      go_wp2
      go_ret2
      rw [HE.out, if_pos hl]
      exact ⟨rfl, hb3⟩
    · obtain ⟨s, hs⟩ : ∃ s : ByteArray, s = ⟨l.toArray⟩ := ⟨_, rfl⟩
      rw [← hs] at hcv
      have HS : Hid _ := hs
      clear hs
      go_wp2
      go_ret2
      rw [HE.out, if_neg hl, HS.out]
      exact ⟨rfl, hb3⟩

set_option maxHeartbeats 1000000 in
theorem encode_any (m : Pu.Md) (kv vv : Value) (w : World) (hm : MdR w w.heap.size kv vv m) :
    Calls Try.prog 16 #[.agg #[kv, vv]] w fun e w' => e = .returned (.tuple #[.string ⟨(Pu.encode m).1.toArray⟩, .int .i64 (Pu.encode m).2]) ∧ Below w.heap.size w w' := by
  obtain ⟨a1, c1, rfl⟩ := hm.k.shape
  obtain ⟨a2, c2, rfl⟩ := hm.v.shape
  have hb0 := (Below.refl w.heap.size w).alloc (Nat.le_refl _) (.cells #[.slice a1 m.kinds.length c1, .slice a2 m.funcs.length c2] 33)
  have hms0 := (hm.below hb0).wide (B' := (w.alloc (.cells #[.slice a1 m.kinds.length c1, .slice a2 m.funcs.length c2] 33)).heap.size) (by simp)
  clear hm
  go_enter Try.func16, Try.ntmps16
  go_wp2_with fail
  refine (writeModule_any m _ _ _ hms0).mono ?_
  rintro e w1 ⟨rfl, hb⟩
  have hb1 := hb0.trans (hb.mono (by simp))
  clear hms0 hb hb0
  go_wp2
  go_ret2
  exact ⟨rfl, hb1⟩
end Go.Proofs.Ytjamgmbdilkbcaa
