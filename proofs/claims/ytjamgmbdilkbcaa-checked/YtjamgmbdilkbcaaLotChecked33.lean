import Derived.Test.YtjamgmbdilkbcaaLotChecked31
/- The document's known. -/
namespace Go.Proofs.Ytjamgmbdilkbcaa
open Go.RowKit

/-- a pair, as it lies in memory. -/
structure Pr where
  at_ : Nat
  s : ByteArray
  p : ByteArray
  deriving DecidableEq
def prV (x : Pr) : Value := .agg #[.int .i64 x.at_, .string x.s, .string x.p]
def prD : Pr := ⟨0, ⟨#[]⟩, ⟨#[]⟩⟩
def PairsR (w : World) (B : Nat) (v : Value) (l : List Pr) : Prop :=
  ∃ (ao : Option Addr) (cap b off : Nat), v = .slice ao l.length cap ∧ (0 < l.length → ao = some ⟨b, off, none⟩ ∧ b < B) ∧
    ∀ j, j < l.length → w.cell? ⟨b, off + j * 3, none⟩ = some (.int .i64 (l.getD j prD).at_) ∧ w.cell? ⟨b, off + j * 3 + 1, none⟩ = some (.string (l.getD j prD).s) ∧ w.cell? ⟨b, off + j * 3 + 2, none⟩ = some (.string (l.getD j prD).p)
def isK (l : List Pr) (q : Pr) : Bool := decide (q ∈ l)
def othK (l : List Pr) (q : Pr) : Bool := l.any fun x => decide (x.at_ = q.at_) && decide (x ≠ q)
def KnownOut (w w' : World) (l : List Pr) (q : Pr) (e : Ending) : Prop := e = .returned (.tuple #[.bool (isK l q), .bool (othK l q)]) ∧ Below w.heap.size w w'

theorem ba_ne {x y : ByteArray} (h : ¬ x = y) : (x == y) = false := by
  first
  | exact beq_eq_false_iff_ne.2 h
  | (show (x.data == y.data) = false; exact beq_eq_false_iff_ne.2 (fun e => h (ByteArray.ext e)))
theorem ba_tl {x y : ByteArray} (h : ¬ x = y) : ¬ x.toList = y.toList := by
  intro e
  rw [ByteArray.toList_eq, ByteArray.toList_eq] at e
  exact h (ByteArray.ext (Array.toList_inj.1 e))
theorem isK_succ (l : List Pr) (q : Pr) (k : Nat) (h : k < l.length) : isK (l.take (k + 1)) q = (isK (l.take k) q || decide (l.getD k prD = q)) := by
  unfold isK
  rw [List.take_succ_eq_append_getElem h, List.getD_eq_getElem?_getD, List.getElem?_eq_getElem h, Bool.eq_iff_iff]
  simp only [List.mem_append, List.mem_singleton, decide_eq_true_eq, Bool.or_eq_true, Option.getD_some]
  exact ⟨fun h => h.imp id Eq.symm, fun h => h.imp id Eq.symm⟩
theorem othK_succ (l : List Pr) (q : Pr) (k : Nat) (h : k < l.length) : othK (l.take (k + 1)) q = (othK (l.take k) q || (decide ((l.getD k prD).at_ = q.at_) && decide (l.getD k prD ≠ q))) := by
  unfold othK
  rw [List.take_succ_eq_append_getElem h, List.getD_eq_getElem?_getD, List.getElem?_eq_getElem h, List.any_append]
  simp

set_option maxRecDepth 100000 in
set_option maxHeartbeats 1000000 in
theorem rknown_any (l : List Pr) (q : Pr) (v : Value) (w : World) (h : PairsR w w.heap.size v l) (hl : l.length ≤ 1000) :
    Calls Try.prog 107 #[v, prV q] w fun e w' => KnownOut w w' l q e := by
  obtain ⟨ao, cap, b, off, rfl, h1, h2⟩ := h
  have H1 := hid h1
  have H2 := hid h2
  clear h1 h2
  unfold prV
  go_enter Try.func107, Try.ntmps107
  go_wp2
  obtain ⟨qa, qs, qp⟩ := q
  simp only
  have fb0 : F3 (w.alloc (.cells #[.int .i64 qa, .string qs, .string qp] 177)) w.heap.size 177 (.int .i64 qa) (.string qs) (.string qp) := heap_alloc_new w _
  have bl0 := (Below.refl w.heap.size w).alloc (Nat.le_refl _) (.cells #[.int .i64 qa, .string qs, .string qp] 177)
  go_loopw [6, 7, 8] (fun is ot i wr => ∃ k : Nat, k ≤ l.length ∧ i = .int .i64 k ∧ is = .bool (isK (l.take k) ⟨qa, qs, qp⟩) ∧ ot = .bool (othK (l.take k) ⟨qa, qs, qp⟩) ∧ F3 wr w.heap.size 177 (.int .i64 qa) (.string qs) (.string qp) ∧ Below w.heap.size w wr) (fun _ _ i _ => l.length - (intOf i).toNat)
  case atStart => exact ⟨0, Nat.zero_le _, rfl, rfl, rfl, fb0, bl0⟩
  case round =>
    clear fb0 bl0
    obtain ⟨k, hk, rfl, rfl, rfl, fb, bl⟩ := hrel
    by_cases hlt : k < l.length
    · obtain ⟨rfl, hbB⟩ := H1.out (by omega)
      obtain ⟨g0, g1, g2⟩ := H2.out k hlt
      have c0 := (bl.cell (p := ⟨b, off + k * 3, none⟩) hbB).trans g0
      have c1 := (bl.cell (p := ⟨b, off + k * 3 + 1, none⟩) hbB).trans g1
      have c2 := (bl.cell (p := ⟨b, off + k * 3 + 2, none⟩) hbB).trans g2
      have d0 := fb.c0
      have d1 := fb.c1
      have d2 := fb.c2
      have HIS0 := hid (isK_succ l ⟨qa, qs, qp⟩ k hlt)
      have HOT0 := hid (othK_succ l ⟨qa, qs, qp⟩ k hlt)
      clear c0 c1 c2
      have H2' := H2
      clear H2
      generalize l.getD k prD = x at *
      obtain ⟨xa, xs, xp⟩ := x
      simp only at g0 g1 g2
      have c0 := (bl.cell (p := ⟨b, off + k * 3, none⟩) hbB).trans g0
      have c1 := (bl.cell (p := ⟨b, off + k * 3 + 1, none⟩) hbB).trans g1
      have c2 := (bl.cell (p := ⟨b, off + k * 3 + 2, none⟩) hbB).trans g2
      generalize isK (l.take k) ⟨qa, qs, qp⟩ = IS at *
      generalize othK (l.take k) ⟨qa, qs, qp⟩ = OT at *
      have G0 := hid g0
      by_cases ha : xa = qa
      · subst ha
        by_cases hs : xs = qs
        · subst hs
          by_cases hp : xp = qp
          · subst hp
            have HIS : Hid (isK (l.take (k + 1)) ⟨xa, xs, xp⟩ = (IS || true)) := by show _ = _; rw [HIS0.out]; simp
            have HOT : Hid (othK (l.take (k + 1)) ⟨xa, xs, xp⟩ = (OT || false)) := by show _ = _; rw [HOT0.out]; simp
            clear HIS0 HOT0
            cases IS with
            | true =>
              go_wp2_with fail
              go_quiet (fail)
              have bA := below_drewN (Below.refl wr.heap.size wr) nq
              have fb5 := (bA.block _ fb.lt).trans fb
              have bl5 := bl.trans (bA.mono bl.size)
              have c0 := (bl5.cell (p := ⟨b, off + k * 3, none⟩) hbB).trans g0
              have c1 := (bl5.cell (p := ⟨b, off + k * 3 + 1, none⟩) hbB).trans g1
              have c2 := (bl5.cell (p := ⟨b, off + k * 3 + 2, none⟩) hbB).trans g2
              have fb5 : F3 (wr.drewN nq) w.heap.size 177 (.int .i64 xa) (.string xs) (.string xp) := fb5
              have d0 := fb5.c0
              have d1 := fb5.c1
              have d2 := fb5.c2
              clear bA fb bl
              generalize wr.drewN nq = w5 at *
              cases OT with
              | true =>
                go_wp2_with fail
                go_quiet (fail)
                have bB := below_drewN (Below.refl w5.heap.size w5) nq
                have fb6 := (bB.block _ fb5.lt).trans fb5
                have bl6 := bl5.trans (bB.mono bl5.size)
                clear bB fb5 bl5 c0 c1 c2 d0 d1 d2
                go_wp2_with fail
                go_roundw
                case rel => exact ⟨k + 1, hlt, by go_num, by rw [HIS.out]; rfl, by rw [HOT.out]; rfl, fb6, bl6⟩
                case measure => simp [intOf]; omega
              | false =>
                go_wp2_with fail
                go_region_held3 (fun w' => w'.cell? ⟨b, off + k * 3, none⟩ = some (.int .i64 xa) ∧ w'.cell? ⟨b, off + k * 3 + 1, none⟩ = some (.string xs) ∧ w'.cell? ⟨b, off + k * 3 + 2, none⟩ = some (.string xp) ∧ w'.cell? ⟨w.heap.size, 0, none⟩ = some (.int .i64 xa) ∧ w'.cell? ⟨w.heap.size, 1, none⟩ = some (.string xs) ∧ w'.cell? ⟨w.heap.size, 2, none⟩ = some (.string xp)) (exact ⟨c0, c1, c2, d0, d1, d2⟩) (fail)
                have bB := (Below.refl w5.heap.size w5).drew
                have fb6 := (bB.block _ fb5.lt).trans fb5
                have bl6 := bl5.trans (bB.mono bl5.size)
                clear bB fb5 bl5 c0 c1 c2 d0 d1 d2
                go_wp2_with fail
                go_roundw
                case rel => exact ⟨k + 1, hlt, by go_num, by rw [HIS.out]; rfl, by rw [HOT.out]; rfl, fb6, bl6⟩
                case measure => simp [intOf]; omega
            | false =>
              go_wp2_with fail
              go_region_held3 (fun w' => w'.cell? ⟨b, off + k * 3, none⟩ = some (.int .i64 xa) ∧ w'.cell? ⟨b, off + k * 3 + 1, none⟩ = some (.string xs) ∧ w'.cell? ⟨b, off + k * 3 + 2, none⟩ = some (.string xp) ∧ w'.cell? ⟨w.heap.size, 0, none⟩ = some (.int .i64 xa) ∧ w'.cell? ⟨w.heap.size, 1, none⟩ = some (.string xs) ∧ w'.cell? ⟨w.heap.size, 2, none⟩ = some (.string xp)) (exact ⟨c0, c1, c2, d0, d1, d2⟩) (fail)
              have bA := (Below.refl wr.heap.size wr).drew
              have fb5 := (bA.block _ fb.lt).trans fb
              have bl5 := bl.trans (bA.mono bl.size)
              have c0 := (bl5.cell (p := ⟨b, off + k * 3, none⟩) hbB).trans g0
              have c1 := (bl5.cell (p := ⟨b, off + k * 3 + 1, none⟩) hbB).trans g1
              have c2 := (bl5.cell (p := ⟨b, off + k * 3 + 2, none⟩) hbB).trans g2
              have fb5 : F3 (wr.drew) w.heap.size 177 (.int .i64 xa) (.string xs) (.string xp) := fb5
              have d0 := fb5.c0
              have d1 := fb5.c1
              have d2 := fb5.c2
              clear bA fb bl
              generalize wr.drew = w5 at *
              cases OT with
              | true =>
                go_wp2_with fail
                go_quiet (fail)
                have bB := below_drewN (Below.refl w5.heap.size w5) nq
                have fb6 := (bB.block _ fb5.lt).trans fb5
                have bl6 := bl5.trans (bB.mono bl5.size)
                clear bB fb5 bl5 c0 c1 c2 d0 d1 d2
                go_wp2_with fail
                go_roundw
                case rel => exact ⟨k + 1, hlt, by go_num, by rw [HIS.out]; rfl, by rw [HOT.out]; rfl, fb6, bl6⟩
                case measure => simp [intOf]; omega
              | false =>
                go_wp2_with fail
                go_region_held3 (fun w' => w'.cell? ⟨b, off + k * 3, none⟩ = some (.int .i64 xa) ∧ w'.cell? ⟨b, off + k * 3 + 1, none⟩ = some (.string xs) ∧ w'.cell? ⟨b, off + k * 3 + 2, none⟩ = some (.string xp) ∧ w'.cell? ⟨w.heap.size, 0, none⟩ = some (.int .i64 xa) ∧ w'.cell? ⟨w.heap.size, 1, none⟩ = some (.string xs) ∧ w'.cell? ⟨w.heap.size, 2, none⟩ = some (.string xp)) (exact ⟨c0, c1, c2, d0, d1, d2⟩) (fail)
                have bB := (Below.refl w5.heap.size w5).drew
                have fb6 := (bB.block _ fb5.lt).trans fb5
                have bl6 := bl5.trans (bB.mono bl5.size)
                clear bB fb5 bl5 c0 c1 c2 d0 d1 d2
                go_wp2_with fail
                go_roundw
                case rel => exact ⟨k + 1, hlt, by go_num, by rw [HIS.out]; rfl, by rw [HOT.out]; rfl, fb6, bl6⟩
                case measure => simp [intOf]; omega
          · have HIS : Hid (isK (l.take (k + 1)) ⟨xa, xs, qp⟩ = (IS || false)) := by show _ = _; rw [HIS0.out]; simp [hp]
            have HOT : Hid (othK (l.take (k + 1)) ⟨xa, xs, qp⟩ = (OT || true)) := by show _ = _; rw [HOT0.out]; simp [hp]
            have n1 : (xp.toList == qp.toList) = false := by simpa using ba_tl hp
            have n2 : (xp.toList = qp.toList) = False := by simpa using ba_tl hp
            have n3 : (xp.toList != qp.toList) = true := by simpa using ba_tl hp
            clear HIS0 HOT0
            cases IS with
            | true =>
              go_wp2_with fail
              go_quiet (fail)
              have bA := below_drewN (Below.refl wr.heap.size wr) nq
              have fb5 := (bA.block _ fb.lt).trans fb
              have bl5 := bl.trans (bA.mono bl.size)
              have c0 := (bl5.cell (p := ⟨b, off + k * 3, none⟩) hbB).trans g0
              have c1 := (bl5.cell (p := ⟨b, off + k * 3 + 1, none⟩) hbB).trans g1
              have c2 := (bl5.cell (p := ⟨b, off + k * 3 + 2, none⟩) hbB).trans g2
              have fb5 : F3 (wr.drewN nq) w.heap.size 177 (.int .i64 xa) (.string xs) (.string qp) := fb5
              have d0 := fb5.c0
              have d1 := fb5.c1
              have d2 := fb5.c2
              clear bA fb bl
              generalize wr.drewN nq = w5 at *
              cases OT with
              | true =>
                go_wp2_with fail
                go_quiet (fail)
                have bB := below_drewN (Below.refl w5.heap.size w5) nq
                have fb6 := (bB.block _ fb5.lt).trans fb5
                have bl6 := bl5.trans (bB.mono bl5.size)
                clear bB fb5 bl5 c0 c1 c2 d0 d1 d2
                go_wp2_with fail
                go_roundw
                case rel => exact ⟨k + 1, hlt, by go_num, by rw [HIS.out]; rfl, by rw [HOT.out]; rfl, fb6, bl6⟩
                case measure => simp [intOf]; omega
              | false =>
                go_wp2_with fail
                go_region_held3 (fun w' => w'.cell? ⟨b, off + k * 3, none⟩ = some (.int .i64 xa) ∧ w'.cell? ⟨b, off + k * 3 + 1, none⟩ = some (.string xs) ∧ w'.cell? ⟨b, off + k * 3 + 2, none⟩ = some (.string xp) ∧ w'.cell? ⟨w.heap.size, 0, none⟩ = some (.int .i64 xa) ∧ w'.cell? ⟨w.heap.size, 1, none⟩ = some (.string xs) ∧ w'.cell? ⟨w.heap.size, 2, none⟩ = some (.string qp)) (exact ⟨c0, c1, c2, d0, d1, d2⟩) (fail)
                have bB := (Below.refl w5.heap.size w5).drew
                have fb6 := (bB.block _ fb5.lt).trans fb5
                have bl6 := bl5.trans (bB.mono bl5.size)
                clear bB fb5 bl5 c0 c1 c2 d0 d1 d2
                go_wp2_with fail
                go_roundw
                case rel => exact ⟨k + 1, hlt, by go_num, by rw [HIS.out]; rfl, by rw [HOT.out]; rfl, fb6, bl6⟩
                case measure => simp [intOf]; omega
            | false =>
              go_wp2_with fail
              go_region_held3 (fun w' => w'.cell? ⟨b, off + k * 3, none⟩ = some (.int .i64 xa) ∧ w'.cell? ⟨b, off + k * 3 + 1, none⟩ = some (.string xs) ∧ w'.cell? ⟨b, off + k * 3 + 2, none⟩ = some (.string xp) ∧ w'.cell? ⟨w.heap.size, 0, none⟩ = some (.int .i64 xa) ∧ w'.cell? ⟨w.heap.size, 1, none⟩ = some (.string xs) ∧ w'.cell? ⟨w.heap.size, 2, none⟩ = some (.string qp)) (exact ⟨c0, c1, c2, d0, d1, d2⟩) (fail)
              have bA := (Below.refl wr.heap.size wr).drew
              have fb5 := (bA.block _ fb.lt).trans fb
              have bl5 := bl.trans (bA.mono bl.size)
              have c0 := (bl5.cell (p := ⟨b, off + k * 3, none⟩) hbB).trans g0
              have c1 := (bl5.cell (p := ⟨b, off + k * 3 + 1, none⟩) hbB).trans g1
              have c2 := (bl5.cell (p := ⟨b, off + k * 3 + 2, none⟩) hbB).trans g2
              have fb5 : F3 (wr.drew) w.heap.size 177 (.int .i64 xa) (.string xs) (.string qp) := fb5
              have d0 := fb5.c0
              have d1 := fb5.c1
              have d2 := fb5.c2
              clear bA fb bl
              generalize wr.drew = w5 at *
              cases OT with
              | true =>
                go_wp2_with fail
                go_quiet (fail)
                have bB := below_drewN (Below.refl w5.heap.size w5) nq
                have fb6 := (bB.block _ fb5.lt).trans fb5
                have bl6 := bl5.trans (bB.mono bl5.size)
                clear bB fb5 bl5 c0 c1 c2 d0 d1 d2
                go_wp2_with fail
                go_roundw
                case rel => exact ⟨k + 1, hlt, by go_num, by rw [HIS.out]; rfl, by rw [HOT.out]; rfl, fb6, bl6⟩
                case measure => simp [intOf]; omega
              | false =>
                go_wp2_with fail
                go_region_held3 (fun w' => w'.cell? ⟨b, off + k * 3, none⟩ = some (.int .i64 xa) ∧ w'.cell? ⟨b, off + k * 3 + 1, none⟩ = some (.string xs) ∧ w'.cell? ⟨b, off + k * 3 + 2, none⟩ = some (.string xp) ∧ w'.cell? ⟨w.heap.size, 0, none⟩ = some (.int .i64 xa) ∧ w'.cell? ⟨w.heap.size, 1, none⟩ = some (.string xs) ∧ w'.cell? ⟨w.heap.size, 2, none⟩ = some (.string qp)) (exact ⟨c0, c1, c2, d0, d1, d2⟩) (fail)
                have bB := (Below.refl w5.heap.size w5).drew
                have fb6 := (bB.block _ fb5.lt).trans fb5
                have bl6 := bl5.trans (bB.mono bl5.size)
                clear bB fb5 bl5 c0 c1 c2 d0 d1 d2
                go_wp2_with fail
                go_roundw
                case rel => exact ⟨k + 1, hlt, by go_num, by rw [HIS.out]; rfl, by rw [HOT.out]; rfl, fb6, bl6⟩
                case measure => simp [intOf]; omega
        · have HIS : Hid (isK (l.take (k + 1)) ⟨xa, qs, qp⟩ = (IS || false)) := by show _ = _; rw [HIS0.out]; simp [hs]
          have HOT : Hid (othK (l.take (k + 1)) ⟨xa, qs, qp⟩ = (OT || true)) := by show _ = _; rw [HOT0.out]; simp [hs]
          have n1 : (xs.toList == qs.toList) = false := by simpa using ba_tl hs
          have n2 : (xs.toList = qs.toList) = False := by simpa using ba_tl hs
          have n3 : (xs.toList != qs.toList) = true := by simpa using ba_tl hs
          clear HIS0 HOT0
          cases IS with
          | true =>
            go_wp2_with fail
            go_quiet (fail)
            have bA := below_drewN (Below.refl wr.heap.size wr) nq
            have fb5 := (bA.block _ fb.lt).trans fb
            have bl5 := bl.trans (bA.mono bl.size)
            have c0 := (bl5.cell (p := ⟨b, off + k * 3, none⟩) hbB).trans g0
            have c1 := (bl5.cell (p := ⟨b, off + k * 3 + 1, none⟩) hbB).trans g1
            have c2 := (bl5.cell (p := ⟨b, off + k * 3 + 2, none⟩) hbB).trans g2
            have fb5 : F3 (wr.drewN nq) w.heap.size 177 (.int .i64 xa) (.string qs) (.string qp) := fb5
            have d0 := fb5.c0
            have d1 := fb5.c1
            have d2 := fb5.c2
            clear bA fb bl
            generalize wr.drewN nq = w5 at *
            cases OT with
            | true =>
              go_wp2_with fail
              go_quiet (fail)
              have bB := below_drewN (Below.refl w5.heap.size w5) nq
              have fb6 := (bB.block _ fb5.lt).trans fb5
              have bl6 := bl5.trans (bB.mono bl5.size)
              clear bB fb5 bl5 c0 c1 c2 d0 d1 d2
              go_wp2_with fail
              go_roundw
              case rel => exact ⟨k + 1, hlt, by go_num, by rw [HIS.out]; rfl, by rw [HOT.out]; rfl, fb6, bl6⟩
              case measure => simp [intOf]; omega
            | false =>
              go_wp2_with fail
              go_region_held3 (fun w' => w'.cell? ⟨b, off + k * 3, none⟩ = some (.int .i64 xa) ∧ w'.cell? ⟨b, off + k * 3 + 1, none⟩ = some (.string xs) ∧ w'.cell? ⟨b, off + k * 3 + 2, none⟩ = some (.string xp) ∧ w'.cell? ⟨w.heap.size, 0, none⟩ = some (.int .i64 xa) ∧ w'.cell? ⟨w.heap.size, 1, none⟩ = some (.string qs) ∧ w'.cell? ⟨w.heap.size, 2, none⟩ = some (.string qp)) (exact ⟨c0, c1, c2, d0, d1, d2⟩) (fail)
              have bB := (Below.refl w5.heap.size w5).drew
              have fb6 := (bB.block _ fb5.lt).trans fb5
              have bl6 := bl5.trans (bB.mono bl5.size)
              clear bB fb5 bl5 c0 c1 c2 d0 d1 d2
              go_wp2_with fail
              go_roundw
              case rel => exact ⟨k + 1, hlt, by go_num, by rw [HIS.out]; rfl, by rw [HOT.out]; rfl, fb6, bl6⟩
              case measure => simp [intOf]; omega
          | false =>
            go_wp2_with fail
            go_region_held3 (fun w' => w'.cell? ⟨b, off + k * 3, none⟩ = some (.int .i64 xa) ∧ w'.cell? ⟨b, off + k * 3 + 1, none⟩ = some (.string xs) ∧ w'.cell? ⟨b, off + k * 3 + 2, none⟩ = some (.string xp) ∧ w'.cell? ⟨w.heap.size, 0, none⟩ = some (.int .i64 xa) ∧ w'.cell? ⟨w.heap.size, 1, none⟩ = some (.string qs) ∧ w'.cell? ⟨w.heap.size, 2, none⟩ = some (.string qp)) (exact ⟨c0, c1, c2, d0, d1, d2⟩) (fail)
            have bA := (Below.refl wr.heap.size wr).drew
            have fb5 := (bA.block _ fb.lt).trans fb
            have bl5 := bl.trans (bA.mono bl.size)
            have c0 := (bl5.cell (p := ⟨b, off + k * 3, none⟩) hbB).trans g0
            have c1 := (bl5.cell (p := ⟨b, off + k * 3 + 1, none⟩) hbB).trans g1
            have c2 := (bl5.cell (p := ⟨b, off + k * 3 + 2, none⟩) hbB).trans g2
            have fb5 : F3 (wr.drew) w.heap.size 177 (.int .i64 xa) (.string qs) (.string qp) := fb5
            have d0 := fb5.c0
            have d1 := fb5.c1
            have d2 := fb5.c2
            clear bA fb bl
            generalize wr.drew = w5 at *
            cases OT with
            | true =>
              go_wp2_with fail
              go_quiet (fail)
              have bB := below_drewN (Below.refl w5.heap.size w5) nq
              have fb6 := (bB.block _ fb5.lt).trans fb5
              have bl6 := bl5.trans (bB.mono bl5.size)
              clear bB fb5 bl5 c0 c1 c2 d0 d1 d2
              go_wp2_with fail
              go_roundw
              case rel => exact ⟨k + 1, hlt, by go_num, by rw [HIS.out]; rfl, by rw [HOT.out]; rfl, fb6, bl6⟩
              case measure => simp [intOf]; omega
            | false =>
              go_wp2_with fail
              go_region_held3 (fun w' => w'.cell? ⟨b, off + k * 3, none⟩ = some (.int .i64 xa) ∧ w'.cell? ⟨b, off + k * 3 + 1, none⟩ = some (.string xs) ∧ w'.cell? ⟨b, off + k * 3 + 2, none⟩ = some (.string xp) ∧ w'.cell? ⟨w.heap.size, 0, none⟩ = some (.int .i64 xa) ∧ w'.cell? ⟨w.heap.size, 1, none⟩ = some (.string qs) ∧ w'.cell? ⟨w.heap.size, 2, none⟩ = some (.string qp)) (exact ⟨c0, c1, c2, d0, d1, d2⟩) (fail)
              have bB := (Below.refl w5.heap.size w5).drew
              have fb6 := (bB.block _ fb5.lt).trans fb5
              have bl6 := bl5.trans (bB.mono bl5.size)
              clear bB fb5 bl5 c0 c1 c2 d0 d1 d2
              go_wp2_with fail
              go_roundw
              case rel => exact ⟨k + 1, hlt, by go_num, by rw [HIS.out]; rfl, by rw [HOT.out]; rfl, fb6, bl6⟩
              case measure => simp [intOf]; omega
      · have HIS : Hid (isK (l.take (k + 1)) ⟨qa, qs, qp⟩ = (IS || false)) := by show _ = _; rw [HIS0.out]; simp [ha]
        have HOT : Hid (othK (l.take (k + 1)) ⟨qa, qs, qp⟩ = (OT || false)) := by show _ = _; rw [HOT0.out]; simp [ha]
        have n1 : ((xa : Int) == (qa : Int)) = false := by simp; omega
        have n2 : ((xa : Int) = (qa : Int)) = False := by simp; omega
        have n3 : ((xa : Int) != (qa : Int)) = true := by simp; omega
        clear HIS0 HOT0
        cases IS with
        | true =>
          go_wp2_with fail
          go_quiet (fail)
          have bA := below_drewN (Below.refl wr.heap.size wr) nq
          have fb5 := (bA.block _ fb.lt).trans fb
          have bl5 := bl.trans (bA.mono bl.size)
          have c0 := (bl5.cell (p := ⟨b, off + k * 3, none⟩) hbB).trans g0
          have c1 := (bl5.cell (p := ⟨b, off + k * 3 + 1, none⟩) hbB).trans g1
          have c2 := (bl5.cell (p := ⟨b, off + k * 3 + 2, none⟩) hbB).trans g2
          have fb5 : F3 (wr.drewN nq) w.heap.size 177 (.int .i64 qa) (.string qs) (.string qp) := fb5
          have d0 := fb5.c0
          have d1 := fb5.c1
          have d2 := fb5.c2
          clear bA fb bl
          generalize wr.drewN nq = w5 at *
          cases OT with
          | true =>
            go_wp2_with fail
            go_quiet (fail)
            have bB := below_drewN (Below.refl w5.heap.size w5) nq
            have fb6 := (bB.block _ fb5.lt).trans fb5
            have bl6 := bl5.trans (bB.mono bl5.size)
            clear bB fb5 bl5 c0 c1 c2 d0 d1 d2
            go_wp2_with fail
            go_roundw
            case rel => exact ⟨k + 1, hlt, by go_num, by rw [HIS.out]; rfl, by rw [HOT.out]; rfl, fb6, bl6⟩
            case measure => simp [intOf]; omega
          | false =>
            go_wp2_with fail
            go_quiet (fail)
            have bB := below_drewN (Below.refl w5.heap.size w5) nq
            have fb6 := (bB.block _ fb5.lt).trans fb5
            have bl6 := bl5.trans (bB.mono bl5.size)
            clear bB fb5 bl5 c0 c1 c2 d0 d1 d2
            go_wp2_with fail
            go_roundw
            case rel => exact ⟨k + 1, hlt, by go_num, by rw [HIS.out]; rfl, by rw [HOT.out]; rfl, fb6, bl6⟩
            case measure => simp [intOf]; omega
        | false =>
          go_wp2_with fail
          go_region_held3 (fun w' => w'.cell? ⟨b, off + k * 3, none⟩ = some (.int .i64 xa) ∧ w'.cell? ⟨b, off + k * 3 + 1, none⟩ = some (.string xs) ∧ w'.cell? ⟨b, off + k * 3 + 2, none⟩ = some (.string xp) ∧ w'.cell? ⟨w.heap.size, 0, none⟩ = some (.int .i64 qa) ∧ w'.cell? ⟨w.heap.size, 1, none⟩ = some (.string qs) ∧ w'.cell? ⟨w.heap.size, 2, none⟩ = some (.string qp)) (exact ⟨c0, c1, c2, d0, d1, d2⟩) (fail)
          have bA := (Below.refl wr.heap.size wr).drew
          have fb5 := (bA.block _ fb.lt).trans fb
          have bl5 := bl.trans (bA.mono bl.size)
          have c0 := (bl5.cell (p := ⟨b, off + k * 3, none⟩) hbB).trans g0
          have c1 := (bl5.cell (p := ⟨b, off + k * 3 + 1, none⟩) hbB).trans g1
          have c2 := (bl5.cell (p := ⟨b, off + k * 3 + 2, none⟩) hbB).trans g2
          have fb5 : F3 (wr.drew) w.heap.size 177 (.int .i64 qa) (.string qs) (.string qp) := fb5
          have d0 := fb5.c0
          have d1 := fb5.c1
          have d2 := fb5.c2
          clear bA fb bl
          generalize wr.drew = w5 at *
          cases OT with
          | true =>
            go_wp2_with fail
            go_quiet (fail)
            have bB := below_drewN (Below.refl w5.heap.size w5) nq
            have fb6 := (bB.block _ fb5.lt).trans fb5
            have bl6 := bl5.trans (bB.mono bl5.size)
            clear bB fb5 bl5 c0 c1 c2 d0 d1 d2
            go_wp2_with fail
            go_roundw
            case rel => exact ⟨k + 1, hlt, by go_num, by rw [HIS.out]; rfl, by rw [HOT.out]; rfl, fb6, bl6⟩
            case measure => simp [intOf]; omega
          | false =>
            go_wp2_with fail
            go_quiet (fail)
            have bB := below_drewN (Below.refl w5.heap.size w5) nq
            have fb6 := (bB.block _ fb5.lt).trans fb5
            have bl6 := bl5.trans (bB.mono bl5.size)
            clear bB fb5 bl5 c0 c1 c2 d0 d1 d2
            go_wp2_with fail
            go_roundw
            case rel => exact ⟨k + 1, hlt, by go_num, by rw [HIS.out]; rfl, by rw [HOT.out]; rfl, fb6, bl6⟩
            case measure => simp [intOf]; omega
    · have hkl : k = l.length := by omega
      subst hkl
      rw [List.take_of_length_le (Nat.le_refl _)]
      go_wp2
      go_ret2
      exact ⟨rfl, bl⟩
end Go.Proofs.Ytjamgmbdilkbcaa
