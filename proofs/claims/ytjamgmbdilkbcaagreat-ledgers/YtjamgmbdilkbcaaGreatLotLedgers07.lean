import Derived.Test.YtjamgmbdilkbcaaGreatLotLedgers06
import Derived.Deep.MidRow
/- step. -/
namespace Go.Proofs.YtjamgmbdilkbcaaGreat
open Go.RowKit

def ArgOk (m : Pu.Md) (f : Pu.Fn) (op arg : Int) : Prop :=
  (0 <= op /\ op <= 18) /\ (op = 8 \/ op = 9 \/ op = 10 -> 0 <= arg /\ arg < (Fl.places f).length) /\ (op = 14 -> 0 <= arg /\ arg < m.funcs.length)
theorem bind_some' (o : Option Fl.S) {F : Fl.S -> Option Fl.S} (h : ∀ t, F t = some t) : o.bind F = o := by
  cases o with
  | none => rfl
  | some t => exact h t
theorem bind_eq (o : Option Fl.S) {F G : Fl.S -> Option Fl.S} (h : ∀ t, F t = G t) : o.bind F = o.bind G := by
  cases o with
  | none => rfl
  | some t => exact h t
theorem drop_no {m : Pu.Md} {o : Option Fl.S} {g : Int} (h : ∀ t, o = some t -> t.stk ≠ [] -> t.stk.getLast? = some g) (hm : Fl.may m g 2 = false) : o.bind (Fl.dropS m) = none := by
  cases o with
  | none => rfl
  | some t =>
    simp only [Option.bind_some, Fl.dropS]
    by_cases he : t.stk = []
    · rw [if_neg (fun h => h.1 he)]
    · rw [h t rfl he]
      simp [hm]
theorem drop_yes {m : Pu.Md} {o : Option Fl.S} {g : Int} (h : ∀ t, o = some t -> t.stk ≠ [] -> t.stk.getLast? = some g) (hm : Fl.may m g 2 = true) : o.bind (Fl.dropS m) = topS o := by
  cases o with
  | none => rfl
  | some t =>
    simp only [Option.bind_some, Fl.dropS, topS]
    by_cases he : t.stk = []
    · rw [if_neg (fun h => h.1 he), if_pos he]
    · rw [h t rfl he, if_neg he, if_pos ⟨he, hm⟩]
set_option maxRecDepth 100000 in
set_option maxHeartbeats 4000000 in
theorem fstep_any (B q p : Nat) (m : Pu.Md) (f : Pu.Fn) (op arg : Int) (mk mv pl st td : Value) (x : FV) (bad kn : Bool) (o : Option Fl.S) (w : World) (hw : WM w B q m f mk mv pl st td x bad) (hs : SB w p kn o) (hp : B <= p) (hpq : p ≠ q) (hop : ArgOk m f op arg) :
    Calls Tryz.prog 105 #[.pointer (some ⟨q, 0, none⟩), .pointer (some ⟨p, 0, none⟩), .agg #[.int .i64 op, .int .i64 arg]] w fun e w' => Done w w' p kn (o.bind (Fl.after m f (op, arg))) e := by
  obtain ⟨⟨o1, o2⟩, hpl, hcl⟩ := hop
  obtain ⟨W0, hW0⟩ : ∃ W0, W0 = w.alloc (.cells #[.int .i64 op, .int .i64 arg] 56) := ⟨_, rfl⟩
  have ga : w.grownBy W0 (some p) := by rw [hW0]; exact ⟨rfl, rfl, rfl, by simp, fun k hk _ => Below.heap_alloc w _ k hk⟩
  have s0 : SB W0 p kn o := by rw [hW0]; exact hs.alloc _
  have w0 : WM W0 B q m f mk mv pl st td x bad := hw.put ga hp hpq
  have HW := hid hW0
  clear hW0 hs hw
  have hh : op = 0 \/ op = 1 \/ op = 2 \/ op = 3 \/ op = 4 \/ op = 5 \/ op = 6 \/ op = 7 \/ op = 8 \/ op = 9 \/ op = 10 \/ op = 11 \/ op = 12 \/ op = 13 \/ op = 14 \/ op = 15 \/ op = 16 \/ op = 17 \/ op = 18 := by omega
  clear o1 o2
  rcases hh with rfl | rfl | rfl | rfl | rfl | rfl | rfl | rfl | rfl | rfl | rfl | rfl | rfl | rfl | rfl | rfl | rfl | rfl | rfl
  · clear hpl hcl
    go_enter Tryz.func105, Tryz.ntmps105
    go_wp2_with fail
    rw [<- HW.out]
    refine (fret_any B q p m f _ _ _ _ _ _ _ kn o W0 w0 s0 hp hpq).mono ?_
    rintro e w1 ⟨rfl, s1, g1⟩
    have E : Hid (o.bind (Fl.after m f (0, arg)) = o.bind (Fl.retS m f)) := by show _ = _; exact bind_eq o (fun t => by simp [Fl.after])
    rw [<- E.out] at s1
    have FIN : Hid (Done w _ p kn (o.bind (Fl.after m f (0, arg))) (.returned (.tuple #[]))) := ⟨rfl, s1, grown_trans ga g1⟩
    clear E s1
    go_wp2
    go_end0
    exact FIN.out
  · clear hpl hcl
    go_enter Tryz.func105, Tryz.ntmps105
    go_wp2_with fail
    rw [<- HW.out]
    refine (fput_any p 0 kn o W0 s0).mono ?_
    rintro e w1 ⟨rfl, s1, g1⟩
    have E : Hid (o.bind (Fl.after m f (1, arg)) = o.bind (Fl.putS 0)) := by show _ = _; exact bind_eq o (fun t => by simp [Fl.after])
    rw [<- E.out] at s1
    have FIN : Hid (Done w _ p kn (o.bind (Fl.after m f (1, arg))) (.returned (.tuple #[]))) := ⟨rfl, s1, grown_trans ga g1⟩
    clear E s1
    go_wp2
    go_end0
    exact FIN.out
  · clear hpl hcl
    go_enter Tryz.func105, Tryz.ntmps105
    go_wp2_with fail
    rw [<- HW.out]
    refine (ftake_any p 0 kn o W0 s0).mono ?_
    rintro e w1 ⟨rfl, s1, g1⟩
    go_wp2_with fail
    refine (ftake_any p 0 kn _ w1 s1).mono ?_
    rintro e w2 ⟨rfl, s2, g2⟩
    go_wp2_with fail
    refine (fput_any p 0 kn _ w2 s2).mono ?_
    rintro e w3 ⟨rfl, s3, g3⟩
    have E : Hid (o.bind (Fl.after m f (2, arg)) = ((o.bind (Fl.takeS 0)).bind (Fl.takeS 0)).bind (Fl.putS 0)) := by show _ = _; cases o <;> simp [Fl.after]
    rw [<- E.out] at s3
    have FIN : Hid (Done w _ p kn (o.bind (Fl.after m f (2, arg))) (.returned (.tuple #[]))) := ⟨rfl, s3, grown_trans (grown_trans (grown_trans ga g1) g2) g3⟩
    clear E s3
    go_wp2
    go_end0
    exact FIN.out
  · clear hpl hcl
    go_enter Tryz.func105, Tryz.ntmps105
    go_wp2_with fail
    rw [<- HW.out]
    refine (ftake_any p 0 kn o W0 s0).mono ?_
    rintro e w1 ⟨rfl, s1, g1⟩
    go_wp2_with fail
    refine (ftake_any p 0 kn _ w1 s1).mono ?_
    rintro e w2 ⟨rfl, s2, g2⟩
    go_wp2_with fail
    refine (fput_any p 0 kn _ w2 s2).mono ?_
    rintro e w3 ⟨rfl, s3, g3⟩
    have E : Hid (o.bind (Fl.after m f (3, arg)) = ((o.bind (Fl.takeS 0)).bind (Fl.takeS 0)).bind (Fl.putS 0)) := by show _ = _; cases o <;> simp [Fl.after]
    rw [<- E.out] at s3
    have FIN : Hid (Done w _ p kn (o.bind (Fl.after m f (3, arg))) (.returned (.tuple #[]))) := ⟨rfl, s3, grown_trans (grown_trans (grown_trans ga g1) g2) g3⟩
    clear E s3
    go_wp2
    go_end0
    exact FIN.out
  · clear hpl hcl
    go_enter Tryz.func105, Tryz.ntmps105
    go_wp2_with fail
    rw [<- HW.out]
    refine (ftake_any p 0 kn o W0 s0).mono ?_
    rintro e w1 ⟨rfl, s1, g1⟩
    go_wp2_with fail
    refine (ftake_any p 0 kn _ w1 s1).mono ?_
    rintro e w2 ⟨rfl, s2, g2⟩
    go_wp2_with fail
    refine (fput_any p 0 kn _ w2 s2).mono ?_
    rintro e w3 ⟨rfl, s3, g3⟩
    have E : Hid (o.bind (Fl.after m f (4, arg)) = ((o.bind (Fl.takeS 0)).bind (Fl.takeS 0)).bind (Fl.putS 0)) := by show _ = _; cases o <;> simp [Fl.after]
    rw [<- E.out] at s3
    have FIN : Hid (Done w _ p kn (o.bind (Fl.after m f (4, arg))) (.returned (.tuple #[]))) := ⟨rfl, s3, grown_trans (grown_trans (grown_trans ga g1) g2) g3⟩
    clear E s3
    go_wp2
    go_end0
    exact FIN.out
  · clear hpl hcl
    go_enter Tryz.func105, Tryz.ntmps105
    go_wp2_with fail
    rw [<- HW.out]
    refine (ftake_any p 0 kn o W0 s0).mono ?_
    rintro e w1 ⟨rfl, s1, g1⟩
    go_wp2_with fail
    refine (ftake_any p 0 kn _ w1 s1).mono ?_
    rintro e w2 ⟨rfl, s2, g2⟩
    go_wp2_with fail
    refine (fput_any p 0 kn _ w2 s2).mono ?_
    rintro e w3 ⟨rfl, s3, g3⟩
    have E : Hid (o.bind (Fl.after m f (5, arg)) = ((o.bind (Fl.takeS 0)).bind (Fl.takeS 0)).bind (Fl.putS 0)) := by show _ = _; cases o <;> simp [Fl.after]
    rw [<- E.out] at s3
    have FIN : Hid (Done w _ p kn (o.bind (Fl.after m f (5, arg))) (.returned (.tuple #[]))) := ⟨rfl, s3, grown_trans (grown_trans (grown_trans ga g1) g2) g3⟩
    clear E s3
    go_wp2
    go_end0
    exact FIN.out
  · clear hpl hcl
    have E : Hid (o.bind (Fl.after m f (6, arg)) = o) := bind_some' o (fun t => by simp [Fl.after])
    rw [HW.out] at s0 ga
    rw [<- E.out] at s0
    have FIN : Hid (Done w _ p kn (o.bind (Fl.after m f (6, arg))) (.returned (.tuple #[]))) := ⟨rfl, s0, ga⟩
    clear E s0 ga w0 HW
    go_enter Tryz.func105, Tryz.ntmps105
    go_wp2
    go_end0
    exact FIN.out
  · clear hpl hcl
    go_enter Tryz.func105, Tryz.ntmps105
    go_wp2_with fail
    rw [<- HW.out]
    refine (ftake_any p 0 kn o W0 s0).mono ?_
    rintro e w1 ⟨rfl, s1, g1⟩
    have E : Hid (o.bind (Fl.after m f (7, arg)) = o.bind (Fl.takeS 0)) := by show _ = _; exact bind_eq o (fun t => by simp [Fl.after])
    rw [<- E.out] at s1
    have FIN : Hid (Done w _ p kn (o.bind (Fl.after m f (7, arg))) (.returned (.tuple #[]))) := ⟨rfl, s1, grown_trans ga g1⟩
    clear E s1
    go_wp2
    go_end0
    exact FIN.out
  · obtain ⟨h1, h2⟩ := hpl (by omega)
    obtain ⟨a, rfl⟩ : ∃ a : Nat, arg = a := ⟨arg.toNat, by omega⟩
    have ha : a < (Fl.places f).length := by omega
    clear hpl hcl h1 h2
    go_enter Tryz.func105, Tryz.ntmps105
    go_wp2_with fail
    rw [<- HW.out]
    refine (fusePlace_any B q p a m f 8 _ _ _ _ _ _ _ kn o W0 w0 s0 hp hpq ha (by omega)).mono ?_
    rintro e w1 ⟨rfl, s1, g1⟩
    have FIN : Hid (Done w _ p kn (o.bind (Fl.after m f (8, (a : Int)))) (.returned (.tuple #[]))) := ⟨rfl, s1, grown_trans ga g1⟩
    clear s1
    go_wp2
    go_end0
    exact FIN.out
  · obtain ⟨h1, h2⟩ := hpl (by omega)
    obtain ⟨a, rfl⟩ : ∃ a : Nat, arg = a := ⟨arg.toNat, by omega⟩
    have ha : a < (Fl.places f).length := by omega
    clear hpl hcl h1 h2
    go_enter Tryz.func105, Tryz.ntmps105
    go_wp2_with fail
    rw [<- HW.out]
    refine (fusePlace_any B q p a m f 9 _ _ _ _ _ _ _ kn o W0 w0 s0 hp hpq ha (by omega)).mono ?_
    rintro e w1 ⟨rfl, s1, g1⟩
    have FIN : Hid (Done w _ p kn (o.bind (Fl.after m f (9, (a : Int)))) (.returned (.tuple #[]))) := ⟨rfl, s1, grown_trans ga g1⟩
    clear s1
    go_wp2
    go_end0
    exact FIN.out
  · obtain ⟨h1, h2⟩ := hpl (by omega)
    obtain ⟨a, rfl⟩ : ∃ a : Nat, arg = a := ⟨arg.toNat, by omega⟩
    have ha : a < (Fl.places f).length := by omega
    clear hpl hcl h1 h2
    go_enter Tryz.func105, Tryz.ntmps105
    go_wp2_with fail
    rw [<- HW.out]
    refine (fusePlace_any B q p a m f 10 _ _ _ _ _ _ _ kn o W0 w0 s0 hp hpq ha (by omega)).mono ?_
    rintro e w1 ⟨rfl, s1, g1⟩
    have FIN : Hid (Done w _ p kn (o.bind (Fl.after m f (10, (a : Int)))) (.returned (.tuple #[]))) := ⟨rfl, s1, grown_trans ga g1⟩
    clear s1
    go_wp2
    go_end0
    exact FIN.out
  · clear hpl hcl
    go_enter Tryz.func105, Tryz.ntmps105
    go_wp2_with fail
    rw [<- HW.out]
    refine (ftakeAny_any p kn o W0 s0).mono ?_
    rintro e w1 ⟨g, rfl, s1, g1, hl⟩
    have w1m := w0.put g1 hp hpq
    clear w0 s0 HW
    go_wp2_with fail
    refine (fmay_any q g 2 m _ _ _ _ _ _ _ w1 w1m.k (w1m.mr.k.wide w1m.hB) w1m.mr.nk w1m.ko (.inr rfl)).mono ?_
    rintro e w2 ⟨rfl, hal⟩
    have s2 := s1.alike hal
    have g2 := grown_alike (grown_trans ga g1) hal
    clear s1 g1 ga hal w1m
    obtain ⟨b3, e3, _⟩ := s2.c1
    have z3 := s2.fz 1
    cases hmm : Fl.may m g 2 with
    | false =>
      have s3 := s2.bad
      have g3 := grown_trans g2 (grown_set w2 p 1 (.bool true))
      have E : Hid (o.bind (Fl.after m f (11, arg)) = none) := by
        show _ = _
        rw [<- drop_no hl hmm]
        exact bind_eq o (fun t => by simp [Fl.after])
      rw [<- E.out] at s3
      have FIN : Hid (Done w _ p kn (o.bind (Fl.after m f (11, arg))) (.returned (.tuple #[]))) := ⟨rfl, s3, g3⟩
      clear E s3 s2 g2 g3 hl
      go_wp2
      go_end0
      exact FIN.out
    | true =>
      have E : Hid (o.bind (Fl.after m f (11, arg)) = topS o) := by
        show _ = _
        rw [<- drop_yes hl hmm]
        exact bind_eq o (fun t => by simp [Fl.after])
      rw [<- E.out] at s2
      have FIN : Hid (Done w _ p kn (o.bind (Fl.after m f (11, arg))) (.returned (.tuple #[]))) := ⟨rfl, s2, g2⟩
      clear E s2 g2 hl
      go_wp2
      go_end0
      exact FIN.out
  · clear hpl hcl
    go_enter Tryz.func105, Tryz.ntmps105
    go_wp2_with fail
    rw [<- HW.out]
    refine (fuseKind_any p m f 12 arg kn o W0 s0 (by omega)).mono ?_
    rintro e w1 ⟨rfl, s1, g1⟩
    have FIN : Hid (Done w _ p kn (o.bind (Fl.after m f (12, arg))) (.returned (.tuple #[]))) := ⟨rfl, s1, grown_trans ga g1⟩
    clear s1
    go_wp2
    go_end0
    exact FIN.out
  · clear hpl hcl
    go_enter Tryz.func105, Tryz.ntmps105
    go_wp2_with fail
    rw [<- HW.out]
    refine (fuseKind_any p m f 13 arg kn o W0 s0 (by omega)).mono ?_
    rintro e w1 ⟨rfl, s1, g1⟩
    have FIN : Hid (Done w _ p kn (o.bind (Fl.after m f (13, arg))) (.returned (.tuple #[]))) := ⟨rfl, s1, grown_trans ga g1⟩
    clear s1
    go_wp2
    go_end0
    exact FIN.out
  · obtain ⟨h1, h2⟩ := hcl rfl
    obtain ⟨a, rfl⟩ : ∃ a : Nat, arg = a := ⟨arg.toNat, by omega⟩
    have ha : a < m.funcs.length := by omega
    clear hpl hcl h1 h2
    go_enter Tryz.func105, Tryz.ntmps105
    go_wp2_with fail
    rw [<- HW.out]
    refine (fcall_any B q p a m f _ _ _ _ _ _ _ kn o W0 w0 s0 hp ha).mono ?_
    rintro e w1 ⟨rfl, s1, g1⟩
    have E : Hid (o.bind (Fl.after m f (14, (a : Int))) = o.bind (Fl.callS (m.funcs.getD a ⟨[], [], [], []⟩))) := bind_eq o (fun t => by simp [Fl.after])
    rw [<- E.out] at s1
    have FIN : Hid (Done w _ p kn (o.bind (Fl.after m f (14, (a : Int)))) (.returned (.tuple #[]))) := ⟨rfl, s1, grown_trans ga g1⟩
    clear E s1
    go_wp2
    go_end0
    exact FIN.out
  · clear hpl hcl
    go_enter Tryz.func105, Tryz.ntmps105
    go_wp2_with fail
    rw [<- HW.out]
    refine (fuseKind_any p m f 15 arg kn o W0 s0 (by omega)).mono ?_
    rintro e w1 ⟨rfl, s1, g1⟩
    have FIN : Hid (Done w _ p kn (o.bind (Fl.after m f (15, arg))) (.returned (.tuple #[]))) := ⟨rfl, s1, grown_trans ga g1⟩
    clear s1
    go_wp2
    go_end0
    exact FIN.out
  · clear hpl hcl
    go_enter Tryz.func105, Tryz.ntmps105
    go_wp2_with fail
    rw [<- HW.out]
    refine (fuseKind_any p m f 16 arg kn o W0 s0 (by omega)).mono ?_
    rintro e w1 ⟨rfl, s1, g1⟩
    have FIN : Hid (Done w _ p kn (o.bind (Fl.after m f (16, arg))) (.returned (.tuple #[]))) := ⟨rfl, s1, grown_trans ga g1⟩
    clear s1
    go_wp2
    go_end0
    exact FIN.out
  · clear hpl hcl
    go_enter Tryz.func105, Tryz.ntmps105
    go_wp2_with fail
    rw [<- HW.out]
    refine (fuseKind_any p m f 17 arg kn o W0 s0 (by omega)).mono ?_
    rintro e w1 ⟨rfl, s1, g1⟩
    have FIN : Hid (Done w _ p kn (o.bind (Fl.after m f (17, arg))) (.returned (.tuple #[]))) := ⟨rfl, s1, grown_trans ga g1⟩
    clear s1
    go_wp2
    go_end0
    exact FIN.out
  · clear hpl hcl
    have E : Hid (o.bind (Fl.after m f (18, arg)) = o) := bind_some' o (fun t => by simp [Fl.after])
    rw [HW.out] at s0 ga
    rw [<- E.out] at s0
    have FIN : Hid (Done w _ p kn (o.bind (Fl.after m f (18, arg))) (.returned (.tuple #[]))) := ⟨rfl, s0, ga⟩
    clear E s0 ga w0 HW
    go_enter Tryz.func105, Tryz.ntmps105
    go_wp2
    go_end0
    exact FIN.out
end Go.Proofs.YtjamgmbdilkbcaaGreat

/- same, begin. -/
namespace Go.Proofs.YtjamgmbdilkbcaaGreat
open Go.RowKit

structure SV where
  kn : Bool
  bad : Bool
  h : Nat
  arr : List Int
  full : List Bool
structure SV.Ok (s : SV) : Prop where
  ha : s.arr.length = 16
  hf : s.full.length = 8
  hh : s.h <= 16
def SV.cells (s : SV) : List Value := sc s.kn s.bad s.h s.arr s.full
def SV.val (s : SV) : Value := .agg s.cells.toArray
def SV.st (s : SV) : Fl.S := ⟨s.arr.take s.h, s.full⟩
theorem SV.len (s : SV) (h : s.Ok) : s.cells.length = 27 := by simp [SV.cells, sc, h.ha, h.hf]
theorem SV.one (s : SV) : ∀ v ∈ s.cells, v.oneCell' = true := by
  intro v hv
  simp only [SV.cells, sc, List.mem_cons, List.mem_append, List.mem_map] at hv
  rcases hv with rfl | rfl | rfl | ⟨_, _, rfl⟩ | ⟨_, _, rfl⟩ <;> rfl
theorem SM.of_block {w : World} {q : Nat} {s : SV} (h : w.heap[q]? = some (.cells s.cells.toArray 176 (0, 0))) (ok : s.Ok) : SM w q s.kn s.bad s.h s.arr s.full := ⟨h, ok.ha, ok.hf, ok.hh⟩
theorem full_eq {a b : List Bool} (ha : a.length = 8) (hb : b.length = 8) (h : ∀ i, i < 8 -> a.getD i false = b.getD i false) : a = b := by
  apply List.ext_getElem (by omega)
  intro i h1 h2
  have := h i (by omega)
  rw [List.getD_eq_getElem?_getD, List.getD_eq_getElem?_getD, List.getElem?_eq_getElem h1, List.getElem?_eq_getElem h2] at this
  exact this
def SameOut (w w' : World) (a b : SV) (e : Ending) : Prop := ∃ r, e = .returned (.bool r) /\ (r = true ↔ a.st = b.st) /\ Below w.heap.size w w'
set_option maxRecDepth 100000 in
set_option maxHeartbeats 2000000 in
theorem fsame_any (a b : SV) (w : World) (oa : a.Ok) (ob : b.Ok) :
    Calls Tryz.prog 104 #[a.val, b.val] w fun e w' => SameOut w w' a b e := by
  obtain ⟨W0, hW0⟩ : ∃ W0, W0 = (w.alloc (.cells a.cells.toArray 176)).alloc (.cells b.cells.toArray 176) := ⟨_, rfl⟩
  have hb0 : Below w.heap.size w W0 := by rw [hW0]; exact ((Below.refl w.heap.size w).alloc (Nat.le_refl _) _).alloc (by simp) _
  have sa : SM W0 w.heap.size a.kn a.bad a.h a.arr a.full := by rw [hW0]; exact SM.of_block (heap_alloc2_old w _ _) oa
  have sb : SM W0 (w.heap.size + 1) b.kn b.bad b.h b.arr b.full := by rw [hW0]; exact SM.of_block (heap_alloc2_new w _ _) ob
  have HW := hid hW0
  have FIN : Hid (∀ w' r, Alike W0 w' -> (r = true ↔ a.st = b.st) -> SameOut w w' a b (.returned (.bool r))) := fun w' r ha hr => ⟨r, rfl, hr, hb0.trans (ha.below _)⟩
  have HA := hid sa
  have HB := hid sb
  have hha := oa.hh
  have hhb := ob.hh
  have da := sa.c2
  have db := sb.c2
  have OA := hid oa
  have OB := hid ob
  rw [hW0] at da db
  clear hW0 hb0 sa sb oa ob
  unfold SV.val
  by_cases hh : a.h = b.h
  · have HHE := hid hh
    rw [<- hh] at db
    have heq : ((a.h : Int) = (b.h : Int)) := by omega
    go_enter Tryz.func104, Tryz.ntmps104
    go_wp2
    rw [<- HW.out]
    clear HW da db heq hh hhb
    generalize w.heap.size = q at *
    go_loopw [5] (fun i wr => ∃ k : Nat, k <= a.h /\ i = .int .i64 k /\ Alike W0 wr /\ a.arr.take k = b.arr.take k) (fun i _ => a.h - (intOf i).toNat)
    case atStart => exact ⟨0, Nat.zero_le _, rfl, Alike.refl _, by simp⟩
    case round =>
      obtain ⟨k, hk, rfl, hal, heq⟩ := hrel
      have at' : ∀ (p i : Nat), wr.cell? ⟨p, i, none⟩ = W0.cell? ⟨p, i, none⟩ := fun p i => by simp only [World.cell?]; rw [hal.1]
      have da := (at' _ _).trans HA.out.c2
      have HEQ := hid heq
      clear heq
      by_cases hlt : k < a.h
      · have c1 := (at' _ _).trans (HA.out.cs k (by omega))
        have c2 := (at' _ _).trans (HB.out.cs k (by omega))
        have HTK : Hid (a.arr.take (k + 1) = a.arr.take k ++ [a.arr.getD k 0] /\ b.arr.take (k + 1) = b.arr.take k ++ [b.arr.getD k 0]) := by
          have := OA.out.ha
          have := OB.out.ha
          refine ⟨?_, ?_⟩
          · rw [List.take_succ_eq_append_getElem (by omega), List.getD_eq_getElem?_getD, List.getElem?_eq_getElem (by omega)]; rfl
          · rw [List.take_succ_eq_append_getElem (by omega), List.getD_eq_getElem?_getD, List.getElem?_eq_getElem (by omega)]; rfl
        have HNE : Hid (a.arr.getD k 0 ≠ b.arr.getD k 0 -> a.st ≠ b.st) := by
          intro hne e
          apply hne
          have := congrArg (fun s => s.stk[k]?) e
          simp only [SV.st, List.getElem?_take] at this
          rw [if_pos hlt, if_pos (by have := HHE.out; omega)] at this
          rw [List.getD_eq_getElem?_getD, List.getD_eq_getElem?_getD, this]
        clear at'
        generalize a.arr.getD k 0 = u at *
        generalize b.arr.getD k 0 = v at *
        by_cases huv : u = v
        · subst huv
          have HEQ2 : Hid (a.arr.take (k + 1) = b.arr.take (k + 1)) := by show _ = _; rw [HTK.out.1, HTK.out.2, HEQ.out]
          clear HTK HNE
          go_wp2
          go_quiet (fail)
          go_wp2
          go_roundw
          case rel => exact ⟨k + 1, hlt, by go_num, hal.trans ⟨rfl, rfl, rfl, rfl⟩, HEQ2.out⟩
          case measure => simp [intOf]; omega
        · have HN := hid (HNE.out huv)
          clear HTK HNE
          go_wp2
          go_quiet (fail)
          go_wp2
          go_ret
          exact FIN.out _ false (hal.trans ⟨rfl, rfl, rfl, rfl⟩) (by simp; exact HN.out)
      · have HT : Hid (a.arr.take a.h = b.arr.take b.h) := by
          have hkl : k = a.h := by omega
          show _ = _
          rw [<- HHE.out, <- hkl]
          exact HEQ.out
        clear HEQ at' hk
        go_wp2
        clear da hlt
        go_loopw [6] (fun i wr => ∃ k : Nat, k <= 8 /\ i = .int .i64 k /\ Alike W0 wr /\ ∀ i, i < k -> a.full.getD i false = b.full.getD i false) (fun i _ => 8 - (intOf i).toNat)
        case atStart => exact ⟨0, Nat.zero_le _, rfl, hal, fun i hi => by omega⟩
        case round =>
          obtain ⟨k, hk, rfl, hal, heq⟩ := hrel
          have at' : ∀ (p i : Nat), wr.cell? ⟨p, i, none⟩ = W0.cell? ⟨p, i, none⟩ := fun p i => by simp only [World.cell?]; rw [hal.1]
          have HEQ := hid heq
          clear heq
          by_cases hlt : k < 8
          · have c1 := (at' _ _).trans (HA.out.cf k hlt)
            have c2 := (at' _ _).trans (HB.out.cf k hlt)
            have HST : Hid (a.full.getD k false = b.full.getD k false -> ∀ i, i < k + 1 -> a.full.getD i false = b.full.getD i false) := fun h i hi => by
              by_cases hik : i < k
              · exact HEQ.out i hik
              · rw [show i = k from by omega]; exact h
            have HNE : Hid (a.full.getD k false ≠ b.full.getD k false -> a.st ≠ b.st) := by
              intro hne e
              apply hne
              have := congrArg (fun s => s.full.getD k false) e
              exact this
            clear at'
            generalize a.full.getD k false = u at *
            generalize b.full.getD k false = v at *
            by_cases huv : u = v
            · subst huv
              have HEQ2 := hid (HST.out rfl)
              clear HST HNE
              cases u
              all_goals
                go_wp2
                go_quiet (fail)
                go_wp2
                exact ⟨⟨k + 1, hlt, by go_num, hal.trans ⟨rfl, rfl, rfl, rfl⟩, HEQ2.out⟩, by simp [intOf]; omega⟩
            · have HN := hid (HNE.out huv)
              clear HST HNE
              cases u <;> cases v
              case false.false => exact absurd rfl huv
              case true.true => exact absurd rfl huv
              all_goals
                clear huv
                go_wp2
                go_quiet (fail)
                go_wp2
                go_ret
                exact FIN.out _ false (hal.trans ⟨rfl, rfl, rfl, rfl⟩) (by simp; exact HN.out)
          · have HE : Hid (a.st = b.st) := by
              show _ = _
              unfold SV.st
              rw [HT.out, full_eq OA.out.hf OB.out.hf (fun i hi => HEQ.out i (by omega))]
            clear at' HEQ
            go_wp2
            go_ret
            exact FIN.out _ true hal (by simp; exact HE.out)
  · have HN : Hid (a.st ≠ b.st) := by
      intro e
      apply hh
      have := congrArg (fun s => s.stk.length) e
      simp only [SV.st, List.length_take, OA.out.ha, OB.out.ha] at this
      omega
    have hne : ((a.h : Int) ≠ (b.h : Int)) := by omega
    go_enter Tryz.func104, Tryz.ntmps104
    go_wp2
    rw [<- HW.out]
    go_ret
    exact FIN.out _ false (Alike.refl _) (by simp; exact HN.out)
end Go.Proofs.YtjamgmbdilkbcaaGreat

/- lead: laws. -/
namespace Go.Proofs.YtjamgmbdilkbcaaGreat
open Go.RowKit

def scs (l : List SV) : List Value := l.flatMap SV.cells
theorem scs_len : ∀ (l : List SV), (∀ s ∈ l, s.Ok) -> (scs l).length = l.length * 27
  | [], _ => rfl
  | s :: l, h => by
    have h1 := s.len (h s (by simp))
    have h2 := scs_len l (fun u hu => h u (by simp [hu]))
    simp only [scs, List.flatMap_cons, List.length_append, List.length_cons] at h2 ⊢
    omega
theorem scs_split (l : List SV) (j : Nat) (hj : j < l.length) : scs l = scs (l.take j) ++ (l[j].cells ++ scs (l.drop (j + 1))) := by
  have h : l = l.take j ++ (l[j] :: l.drop (j + 1)) := by rw [<- List.drop_eq_getElem_cons hj, List.take_append_drop]
  have e : scs (l.take j ++ (l[j] :: l.drop (j + 1))) = scs (l.take j) ++ (l[j].cells ++ scs (l.drop (j + 1))) := by unfold scs; rw [List.flatMap_append, List.flatMap_cons]
  rw [<- e, <- h]
theorem scs_get (l : List SV) (ok : ∀ s ∈ l, s.Ok) (j i : Nat) (hj : j < l.length) (hi : i < 27) : (scs l)[j * 27 + i]? = l[j].cells[i]? := by
  have h1 := scs_len (l.take j) (fun s hs => ok s (List.mem_of_mem_take hs))
  have h2 := l[j].len (ok _ (List.getElem_mem hj))
  rw [scs_split l j hj, List.getElem?_append_right (by rw [h1, List.length_take]; omega), h1, List.length_take, Nat.min_eq_left (by omega), List.getElem?_append_left (by omega)]
  congr 1
  omega
def setL (xs : List Value) (o : Nat) : List Value -> List Value
  | [] => xs
  | v :: r => setL (xs.set o v) (o + 1) r
theorem setL_mid (c : List Value) : ∀ (vs a b : List Value), b.length = vs.length -> setL (a ++ (b ++ c)) a.length vs = a ++ (vs ++ c)
  | [], a, b, h => by
    have : b = [] := List.eq_nil_of_length_eq_zero h
    subst this
    rfl
  | v :: r, a, [], h => by simp at h
  | v :: r, a, b0 :: b, h => by
    have hs : (a ++ (b0 :: b ++ c)).set a.length v = (a ++ [v]) ++ (b ++ c) := by simp
    rw [setL, hs]
    have := setL_mid c r (a ++ [v]) b (by simpa using h)
    rw [List.length_append, List.length_singleton] at this
    rw [this]
    simp
theorem owns_setCells {B e size n g cap : Nat} : ∀ (vs : List Value) (o : Nat) (w : World) (xs : List Value), w.ownsRow B e size (.slice (some ⟨g, 0, none⟩) n cap) n xs ->
    (w.setCells g o vs).ownsRow B e size (.slice (some ⟨g, 0, none⟩) n cap) n (setL xs o vs) /\ w.grownBy (w.setCells g o vs) (some g)
  | [], o, w, xs, h => ⟨h, grown_of_alike (Alike.refl w)⟩
  | v :: r, o, w, xs, h => by
    have h1 := h.stored o v
    have h2 := owns_setCells r (o + 1) _ _ h1.1
    exact ⟨h2.1, grown_trans h1.2 h2.2⟩
theorem scs_set (l : List SV) (ok : ∀ s ∈ l, s.Ok) (j : Nat) (hj : j < l.length) (s : SV) (os : s.Ok) : setL (scs l) (j * 27) s.cells = scs (l.set j s) := by
  have h1 := scs_len (l.take j) (fun s hs => ok s (List.mem_of_mem_take hs))
  have h2 := l[j].len (ok _ (List.getElem_mem hj))
  have h3 := s.len os
  have e1 : (scs (l.take j)).length = j * 27 := by rw [h1, List.length_take]; congr 1; omega
  rw [scs_split l j hj, <- e1, setL_mid _ _ _ _ (by omega)]
  have hj' : j < (l.set j s).length := by simpa using hj
  rw [scs_split (l.set j s) j hj', List.take_set_of_le (Nat.le_refl _), List.drop_set_of_lt (by omega), List.getElem_set_self]
theorem Tryz.size176 : (Tryz.prog.info? 176).map (·.size) = some 27 := by kernel_rfl
theorem load_state {w : World} {B n g cap : Nat} {l : List SV} (h : w.ownsRow B 176 27 (.slice (some ⟨g, 0, none⟩) n cap) n (scs l)) (ok : ∀ s ∈ l, s.Ok) (j : Nat) (hj : j < l.length) (hn : n = l.length) :
    (Instr.loadAt 176 (.pointer (some ⟨g, j * 27, none⟩))).run Tryz.prog w = .ok l[j].val w := by
  have h2 := l[j].len (ok _ (List.getElem_mem hj))
  refine run_loadAt_mid w g (j * 27) 176 l[j].cells _ (fun i v hi => ?_) Tryz.underlying176 rfl (by rw [h2]; exact Tryz.size176)
  have hil : i < 27 := by rw [<- h2]; exact (List.getElem?_eq_some_iff.1 hi).1
  rw [h.cellAt (j * 27 + i) (by subst hn; omega), scs_get l ok j i hj hil]
  exact hi
theorem range_box {w : World} {q : Nat} {s : SV} (h : w.heap[q]? = some (.cells s.cells.toArray 176 (0, 0))) : w.rangeAt q 0 s.cells := fun i v hi => by
  simp only [World.cell?, h, Nat.zero_add]
  simpa using hi
theorem range_state {w : World} {B n g cap : Nat} {l : List SV} (h : w.ownsRow B 176 27 (.slice (some ⟨g, 0, none⟩) n cap) n (scs l)) (ok : ∀ s ∈ l, s.Ok) (j : Nat) (hj : j < l.length) (hn : n = l.length) : w.rangeAt g (j * 27) l[j].cells := fun i v hi => by
  have h2 := l[j].len (ok _ (List.getElem_mem hj))
  have hil : i < 27 := by rw [<- h2]; exact (List.getElem?_eq_some_iff.1 hi).1
  rw [h.cellAt (j * 27 + i) (by subst hn; omega), scs_get l ok j i hj hil]
  exact hi
theorem there_state {w : World} {B n g cap : Nat} {l : List SV} (h : w.ownsRow B 176 27 (.slice (some ⟨g, 0, none⟩) n cap) n (scs l)) (ok : ∀ s ∈ l, s.Ok) (j : Nat) (hj : j < l.length) (hn : n = l.length) : w.there g (j * 27) 27 := fun i hi => by
  have hl := scs_len l ok
  refine ⟨?_, h.frozenAt _⟩
  rw [h.cellAt (j * 27 + i) (by subst hn; omega), List.getElem?_eq_getElem (by rw [hl]; omega)]
  rfl
structure WW (w : World) (B q : Nat) (m : Pu.Md) (f : Pu.Fn) (mk mv pl st td : Value) (x : FV) (bad : Bool) (ss : List SV) (T : List Nat) : Prop where
  wm : WM w B q m f mk mv pl st td x bad
  os : w.ownsRow B 176 27 st ss.length (scs ss)
  ot : w.ownsRow B 3 1 td T.length (T.map fun n : Nat => Value.int .i64 (n : Int))
  ok : ∀ s ∈ ss, s.Ok /\ (s.kn = true -> s.bad = false)
end Go.Proofs.YtjamgmbdilkbcaaGreat
