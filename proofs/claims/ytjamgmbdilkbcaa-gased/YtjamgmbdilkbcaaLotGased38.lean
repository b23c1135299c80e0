import Derived.Test.YtjamgmbdilkbcaaLotGased37
import Derived.Test.YtjamgmbdilkbcaaLotGased08
/- The bank and its three scripts. No program here. -/
namespace Go.Proofs.Ytjamgmbdilkbcaa
open Go.RowKit Mc

def bankM : Pu.Md := ⟨[0], [⟨[0], [1], [], [(9, 0), (12, 1), (0, 0)]⟩, ⟨[1, 0], [], [], [(9, 0), (9, 1), (16, 1), (0, 0)]⟩, ⟨[], [1], [], [(15, 1), (0, 0)]⟩, ⟨[1], [0], [], [(9, 0), (13, 1), (0, 0)]⟩]⟩
theorem bank_md : (Pu.decode bank).1 = bankM := by kernel_rfl
theorem bank_dec0 : (Pu.decode bank).2.1 = 0 := by decide +kernel

def mintF (n to : Int) : Pu.Fn := ⟨[], [], [], [(1, n), (14, 0), (1, to), (14, 1), (0, 0)]⟩
def giveF (to : Int) : Pu.Fn := ⟨[], [], [], [(14, 2), (1, to), (14, 1), (0, 0)]⟩
def burnF : Pu.Fn := ⟨[], [], [], [(14, 2), (14, 3), (11, 0), (0, 0)]⟩
def mintB (n to : UInt8) : ByteArray := ⟨#[0, 0, 0, 5, 1, n, 14, 0, 1, to, 14, 1, 0, 0]⟩
def giveB (to : UInt8) : ByteArray := ⟨#[0, 0, 0, 4, 14, 2, 1, to, 14, 1, 0, 0]⟩
def burnB : ByteArray := ⟨#[0, 0, 0, 4, 14, 2, 14, 3, 11, 0, 0, 0]⟩

theorem number_byte {b : ByteArray} {i : Nat} (v : UInt8) (h : ¬ b.size ≤ i) (hv : b.data.toList.getD i 0 = v) : Pu.number b 0 255 (i, false) = ((v.toNat : Int), (i + 1, false)) := by
  have := UInt8.toNat_lt v
  unfold Pu.number
  rw [if_neg (by simp), if_neg h, hv, if_neg (by omega)]
theorem code_next {b : ByteArray} {kinds funcs places n : Int} {s : Pu.St} {k : Nat} {l : List (Int × Int)} {i : Nat} {op arg : Int} (h : Pu.code b kinds funcs places n s k = (l, (i, false))) (h1 : Pu.number b 0 18 (i, false) = (op, (i + 1, false)))
    (h2 : Pu.number b (Pu.argLo op) (Pu.argHi kinds funcs places n op) (i + 1, false) = (arg, (i + 2, false))) : Pu.code b kinds funcs places n s (k + 1) = (l ++ [(op, arg)], (i + 2, false)) := by
  unfold Pu.code
  rw [h]
  simp only [h1, h2]

theorem mint_code (n to : UInt8) : Pu.code (mintB n to) 1 4 0 5 (4, false) 5 = ([(1, (n.toNat : Int)), (14, 0), (1, (to.toNat : Int)), (14, 1), (0, 0)], (14, false)) :=
  code_next (l := [(1, (n.toNat : Int)), (14, 0), (1, (to.toNat : Int)), (14, 1)]) (code_next (l := [(1, (n.toNat : Int)), (14, 0), (1, (to.toNat : Int))]) (code_next (l := [(1, (n.toNat : Int)), (14, 0)]) (code_next (l := [(1, (n.toNat : Int))]) (code_next (l := []) rfl (by kernel_rfl) (number_byte n (by show ¬ (14 ≤ 5); omega) rfl)) (by kernel_rfl) (by kernel_rfl)) (by kernel_rfl) (number_byte to (by show ¬ (14 ≤ 9); omega) rfl)) (by kernel_rfl) (by kernel_rfl)) (by kernel_rfl) (by kernel_rfl)
theorem give_code (to : UInt8) : Pu.code (giveB to) 1 4 0 4 (4, false) 4 = ([(14, 2), (1, (to.toNat : Int)), (14, 1), (0, 0)], (12, false)) :=
  code_next (l := [(14, 2), (1, (to.toNat : Int)), (14, 1)]) (code_next (l := [(14, 2), (1, (to.toNat : Int))]) (code_next (l := [(14, 2)]) (code_next (l := []) rfl (by kernel_rfl) (by kernel_rfl)) (by kernel_rfl) (number_byte to (by show ¬ (12 ≤ 7); omega) rfl)) (by kernel_rfl) (by kernel_rfl)) (by kernel_rfl) (by kernel_rfl)
theorem mint_func (n to : UInt8) : Pu.func (mintB n to) 1 4 (0, false) = (mintF n.toNat to.toNat, (14, false)) := by
  have h : Pu.func (mintB n to) 1 4 (0, false) = (⟨[], [], [], (Pu.code (mintB n to) 1 4 0 5 (4, false) 5).1⟩, (Pu.code (mintB n to) 1 4 0 5 (4, false) 5).2) := by kernel_rfl
  rw [h, mint_code]
  rfl
theorem give_func (to : UInt8) : Pu.func (giveB to) 1 4 (0, false) = (giveF to.toNat, (12, false)) := by
  have h : Pu.func (giveB to) 1 4 (0, false) = (⟨[], [], [], (Pu.code (giveB to) 1 4 0 4 (4, false) 4).1⟩, (Pu.code (giveB to) 1 4 0 4 (4, false) 4).2) := by kernel_rfl
  rw [h, give_code]
  rfl
theorem mint_read (n to : UInt8) : readScript (mintB n to) 1 4 = (mintF n.toNat to.toNat, 0) := by
  unfold readScript
  rw [mint_func]
  kernel_rfl
theorem give_read (to : UInt8) : readScript (giveB to) 1 4 = (giveF to.toNat, 0) := by
  unfold readScript
  rw [give_func]
  kernel_rfl
theorem burn_read : readScript burnB 1 4 = (burnF, 0) := by kernel_rfl

/-- states for straight code, given one by one. -/
def chk (m : Pu.Md) (f : Pu.Fn) (L : List Fl.S) : Nat → Bool
  | 0 => true
  | k + 1 => chk m f L k && decide (k < f.code.length) && (match L[k]? with
      | none => true
      | some s => (match Fl.after m f (f.code.getD k (0, 0)) s with
        | none => false
        | some s' => (Fl.leads (f.code.getD k (0, 0)) k).all fun j => decide (L[j]? = some s')))
theorem chk_at {m : Pu.Md} {f : Pu.Fn} {L : List Fl.S} : ∀ {k : Nat}, chk m f L k = true → ∀ i, i < k → i < f.code.length ∧ ∀ s, L[i]? = some s → ∃ s', Fl.after m f (f.code.getD i (0, 0)) s = some s' ∧ ∀ j ∈ Fl.leads (f.code.getD i (0, 0)) i, L[j]? = some s'
  | 0, _, i, hi => absurd hi (by omega)
  | k + 1, h, i, hi => by
    unfold chk at h
    simp only [Bool.and_eq_true, decide_eq_true_eq] at h
    obtain ⟨⟨h1, h2⟩, h3⟩ := h
    by_cases he : i = k
    · subst he
      refine ⟨h2, fun s hs => ?_⟩
      rw [hs] at h3
      simp only at h3
      cases ha : Fl.after m f (f.code.getD i (0, 0)) s with
      | none => rw [ha] at h3; simp at h3
      | some s' =>
        rw [ha] at h3
        simp only [List.all_eq_true, decide_eq_true_eq] at h3
        exact ⟨s', rfl, h3⟩
    · exact chk_at h1 i (by omega)
theorem chk_sound {m : Pu.Md} {f : Pu.Fn} (L : List Fl.S) (h : chk m f L L.length = true) (h0 : L[0]? = some (Fl.init f)) : Fl.Sound m f := by
  refine ⟨fun i => L[i]?, h0, fun i s hs => ?_⟩
  obtain ⟨h1, h2⟩ := chk_at h i (List.getElem?_eq_some_iff.1 hs).1
  exact ⟨h1, h2 s hs⟩

def noP : List Bool := [false, false, false, false, false, false, false, false]
theorem mint_sound (n to : Int) : Fl.Sound bankM (mintF n to) := chk_sound [⟨[], noP⟩, ⟨[0], noP⟩, ⟨[1], noP⟩, ⟨[1, 0], noP⟩, ⟨[], noP⟩] (by kernel_rfl) (by kernel_rfl)
theorem give_sound (to : Int) : Fl.Sound bankM (giveF to) := chk_sound [⟨[], noP⟩, ⟨[1], noP⟩, ⟨[1, 0], noP⟩, ⟨[], noP⟩] (by kernel_rfl) (by kernel_rfl)
theorem burn_sound : Fl.Sound bankM burnF := chk_sound [⟨[], noP⟩, ⟨[1], noP⟩, ⟨[0], noP⟩, ⟨[], noP⟩] (by kernel_rfl) (by kernel_rfl)
theorem bank_good : AllGood bankM := by
  intro j hj
  have hj4 : j < 4 := hj
  match j, hj4 with
  | 0, _ => exact chk_sound [⟨[], [true, false, false, false, false, false, false, false]⟩, ⟨[0], noP⟩, ⟨[1], noP⟩] (by kernel_rfl) (by kernel_rfl)
  | 1, _ => exact chk_sound [⟨[], [true, true, false, false, false, false, false, false]⟩, ⟨[1], [false, true, false, false, false, false, false, false]⟩, ⟨[1, 0], noP⟩, ⟨[], noP⟩] (by kernel_rfl) (by kernel_rfl)
  | 2, _ => exact chk_sound [⟨[], noP⟩, ⟨[1], noP⟩] (by kernel_rfl) (by kernel_rfl)
  | 3, _ => exact chk_sound [⟨[], [true, false, false, false, false, false, false, false]⟩, ⟨[1], noP⟩, ⟨[0], noP⟩] (by kernel_rfl) (by kernel_rfl)

/-- what a run comes to. -/
def Says (V : Vm) (A : Nat → Bool × Int) (u e : Int) : Prop := V.acc = A ∧ V.used = u ∧ V.err = e ∧ V.code = 0

def code0 : List (Int × Int) := [(9, 0), (12, 1), (0, 0)]
def code1 : List (Int × Int) := [(9, 0), (9, 1), (16, 1), (0, 0)]
def code2 : List (Int × Int) := [(15, 1), (0, 0)]
def code3 : List (Int × Int) := [(9, 0), (13, 1), (0, 0)]
theorem go_one {who : Int} {k : Nat} {V V' : Vm} (ho : V.over = false) (hu : V.used < 100) (hs : Vm.step bankM who V.tick = V') : Vm.go bankM who 100 (k + 1) V = Vm.go bankM who 100 k V' := by
  show (if V.over = true ∨ ¬ V.used < 100 then V else Vm.go bankM who 100 k (V.tick.step bankM who)) = _
  rw [if_neg (by rw [ho]; simp; exact hu), hs]
theorem go_end {who gas : Int} {V : Vm} : ∀ (k : Nat), V.over = true → Vm.go bankM who gas k V = V
  | 0, _ => rfl
  | k + 1, h => by unfold Vm.go; rw [if_pos (.inl h)]
theorem goOn_end {who : Int} {V W : Vm} (h : Vm.go bankM who 100 100 V = W) (hW : W.over = true) : Vm.goOn bankM who 100 V = W := by
  unfold Vm.goOn
  rw [show (100 : Int).toNat = 100 from rfl, h, if_pos hW]
theorem mint_to (A : Nat → Bool × Int) (who n to : Int) : Vm.go bankM who 100 100 ⟨[⟨(mintF n to).code, 0, [], fun _ => 0⟩], A, 0, false, 0, 0⟩ = Vm.go bankM who 100 91 ⟨[⟨code1, 2, [to, n], fun j => if j = 0 then n else if j = 1 then to else 0⟩, ⟨(mintF n to).code, 4, [], fun _ => 0⟩], A, 9, false, 0, 0⟩ :=
  ((go_one (V := ⟨[⟨(mintF n to).code, 0, [], fun _ => 0⟩], A, 0, false, 0, 0⟩) (V' := ⟨[⟨(mintF n to).code, 1, [n], fun _ => 0⟩], A, 1, false, 0, 0⟩) rfl (of_decide_eq_true rfl) (by kernel_rfl)).trans
  ((go_one (V := ⟨[⟨(mintF n to).code, 1, [n], fun _ => 0⟩], A, 1, false, 0, 0⟩) (V' := ⟨[⟨code0, 0, [], fun j => if j = 0 then n else 0⟩, ⟨(mintF n to).code, 2, [], fun _ => 0⟩], A, 2, false, 0, 0⟩) rfl (of_decide_eq_true rfl) (by kernel_rfl)).trans
  ((go_one (V := ⟨[⟨code0, 0, [], fun j => if j = 0 then n else 0⟩, ⟨(mintF n to).code, 2, [], fun _ => 0⟩], A, 2, false, 0, 0⟩) (V' := ⟨[⟨code0, 1, [n], fun j => if j = 0 then n else 0⟩, ⟨(mintF n to).code, 2, [], fun _ => 0⟩], A, 3, false, 0, 0⟩) rfl (of_decide_eq_true rfl) (by kernel_rfl)).trans
  ((go_one (V := ⟨[⟨code0, 1, [n], fun j => if j = 0 then n else 0⟩, ⟨(mintF n to).code, 2, [], fun _ => 0⟩], A, 3, false, 0, 0⟩) (V' := ⟨[⟨code0, 2, [n], fun j => if j = 0 then n else 0⟩, ⟨(mintF n to).code, 2, [], fun _ => 0⟩], A, 4, false, 0, 0⟩) rfl (of_decide_eq_true rfl) (by kernel_rfl)).trans
  ((go_one (V := ⟨[⟨code0, 2, [n], fun j => if j = 0 then n else 0⟩, ⟨(mintF n to).code, 2, [], fun _ => 0⟩], A, 4, false, 0, 0⟩) (V' := ⟨[⟨(mintF n to).code, 2, [n], fun _ => 0⟩], A, 5, false, 0, 0⟩) rfl (of_decide_eq_true rfl) (by kernel_rfl)).trans
  ((go_one (V := ⟨[⟨(mintF n to).code, 2, [n], fun _ => 0⟩], A, 5, false, 0, 0⟩) (V' := ⟨[⟨(mintF n to).code, 3, [to, n], fun _ => 0⟩], A, 6, false, 0, 0⟩) rfl (of_decide_eq_true rfl) (by kernel_rfl)).trans
  ((go_one (V := ⟨[⟨(mintF n to).code, 3, [to, n], fun _ => 0⟩], A, 6, false, 0, 0⟩) (V' := ⟨[⟨code1, 0, [], fun j => if j = 0 then n else if j = 1 then to else 0⟩, ⟨(mintF n to).code, 4, [], fun _ => 0⟩], A, 7, false, 0, 0⟩) rfl (of_decide_eq_true rfl) (by kernel_rfl)).trans
  ((go_one (V := ⟨[⟨code1, 0, [], fun j => if j = 0 then n else if j = 1 then to else 0⟩, ⟨(mintF n to).code, 4, [], fun _ => 0⟩], A, 7, false, 0, 0⟩) (V' := ⟨[⟨code1, 1, [n], fun j => if j = 0 then n else if j = 1 then to else 0⟩, ⟨(mintF n to).code, 4, [], fun _ => 0⟩], A, 8, false, 0, 0⟩) rfl (of_decide_eq_true rfl) (by kernel_rfl)).trans
  (go_one (V := ⟨[⟨code1, 1, [n], fun j => if j = 0 then n else if j = 1 then to else 0⟩, ⟨(mintF n to).code, 4, [], fun _ => 0⟩], A, 8, false, 0, 0⟩) (V' := ⟨[⟨code1, 2, [to, n], fun j => if j = 0 then n else if j = 1 then to else 0⟩, ⟨(mintF n to).code, 4, [], fun _ => 0⟩], A, 9, false, 0, 0⟩) rfl (of_decide_eq_true rfl) (by kernel_rfl))))))))))
theorem give_to (A : Nat → Bool × Int) (who n to : Int) : Vm.go bankM who 100 98 ⟨[⟨code2, 1, [n], fun _ => 0⟩, ⟨(giveF to).code, 1, [], fun _ => 0⟩], A, 2, false, 0, 0⟩ = Vm.go bankM who 100 93 ⟨[⟨code1, 2, [to, n], fun j => if j = 0 then n else if j = 1 then to else 0⟩, ⟨(giveF to).code, 3, [], fun _ => 0⟩], A, 7, false, 0, 0⟩ :=
  ((go_one (V := ⟨[⟨code2, 1, [n], fun _ => 0⟩, ⟨(giveF to).code, 1, [], fun _ => 0⟩], A, 2, false, 0, 0⟩) (V' := ⟨[⟨(giveF to).code, 1, [n], fun _ => 0⟩], A, 3, false, 0, 0⟩) rfl (of_decide_eq_true rfl) (by kernel_rfl)).trans
  ((go_one (V := ⟨[⟨(giveF to).code, 1, [n], fun _ => 0⟩], A, 3, false, 0, 0⟩) (V' := ⟨[⟨(giveF to).code, 2, [to, n], fun _ => 0⟩], A, 4, false, 0, 0⟩) rfl (of_decide_eq_true rfl) (by kernel_rfl)).trans
  ((go_one (V := ⟨[⟨(giveF to).code, 2, [to, n], fun _ => 0⟩], A, 4, false, 0, 0⟩) (V' := ⟨[⟨code1, 0, [], fun j => if j = 0 then n else if j = 1 then to else 0⟩, ⟨(giveF to).code, 3, [], fun _ => 0⟩], A, 5, false, 0, 0⟩) rfl (of_decide_eq_true rfl) (by kernel_rfl)).trans
  ((go_one (V := ⟨[⟨code1, 0, [], fun j => if j = 0 then n else if j = 1 then to else 0⟩, ⟨(giveF to).code, 3, [], fun _ => 0⟩], A, 5, false, 0, 0⟩) (V' := ⟨[⟨code1, 1, [n], fun j => if j = 0 then n else if j = 1 then to else 0⟩, ⟨(giveF to).code, 3, [], fun _ => 0⟩], A, 6, false, 0, 0⟩) rfl (of_decide_eq_true rfl) (by kernel_rfl)).trans
  (go_one (V := ⟨[⟨code1, 1, [n], fun j => if j = 0 then n else if j = 1 then to else 0⟩, ⟨(giveF to).code, 3, [], fun _ => 0⟩], A, 6, false, 0, 0⟩) (V' := ⟨[⟨code1, 2, [to, n], fun j => if j = 0 then n else if j = 1 then to else 0⟩, ⟨(giveF to).code, 3, [], fun _ => 0⟩], A, 7, false, 0, 0⟩) rfl (of_decide_eq_true rfl) (by kernel_rfl))))))
theorem burn_to (A : Nat → Bool × Int) (who n : Int) : Vm.go bankM who 100 98 ⟨[⟨code2, 1, [n], fun _ => 0⟩, ⟨burnF.code, 1, [], fun _ => 0⟩], A, 2, false, 0, 0⟩ = Vm.go bankM who 100 92 ⟨[⟨burnF.code, 3, [], fun _ => 0⟩], A, 8, false, 0, 0⟩ :=
  ((go_one (V := ⟨[⟨code2, 1, [n], fun _ => 0⟩, ⟨burnF.code, 1, [], fun _ => 0⟩], A, 2, false, 0, 0⟩) (V' := ⟨[⟨burnF.code, 1, [n], fun _ => 0⟩], A, 3, false, 0, 0⟩) rfl (of_decide_eq_true rfl) (by kernel_rfl)).trans
  ((go_one (V := ⟨[⟨burnF.code, 1, [n], fun _ => 0⟩], A, 3, false, 0, 0⟩) (V' := ⟨[⟨code3, 0, [], fun j => if j = 0 then n else 0⟩, ⟨burnF.code, 2, [], fun _ => 0⟩], A, 4, false, 0, 0⟩) rfl (of_decide_eq_true rfl) (by kernel_rfl)).trans
  ((go_one (V := ⟨[⟨code3, 0, [], fun j => if j = 0 then n else 0⟩, ⟨burnF.code, 2, [], fun _ => 0⟩], A, 4, false, 0, 0⟩) (V' := ⟨[⟨code3, 1, [n], fun j => if j = 0 then n else 0⟩, ⟨burnF.code, 2, [], fun _ => 0⟩], A, 5, false, 0, 0⟩) rfl (of_decide_eq_true rfl) (by kernel_rfl)).trans
  ((go_one (V := ⟨[⟨code3, 1, [n], fun j => if j = 0 then n else 0⟩, ⟨burnF.code, 2, [], fun _ => 0⟩], A, 5, false, 0, 0⟩) (V' := ⟨[⟨code3, 2, [n], fun j => if j = 0 then n else 0⟩, ⟨burnF.code, 2, [], fun _ => 0⟩], A, 6, false, 0, 0⟩) rfl (of_decide_eq_true rfl) (by kernel_rfl)).trans
  ((go_one (V := ⟨[⟨code3, 2, [n], fun j => if j = 0 then n else 0⟩, ⟨burnF.code, 2, [], fun _ => 0⟩], A, 6, false, 0, 0⟩) (V' := ⟨[⟨burnF.code, 2, [n], fun _ => 0⟩], A, 7, false, 0, 0⟩) rfl (of_decide_eq_true rfl) (by kernel_rfl)).trans
  (go_one (V := ⟨[⟨burnF.code, 2, [n], fun _ => 0⟩], A, 7, false, 0, 0⟩) (V' := ⟨[⟨burnF.code, 3, [], fun _ => 0⟩], A, 8, false, 0, 0⟩) rfl (of_decide_eq_true rfl) (by kernel_rfl)))))))
/-- the store within a call of the bank's second function. -/
theorem store_to (A : Nat → Bool × Int) (who to n u : Int) (hu : 0 ≤ u ∧ u < 90) (k : Nat) (p p' : Nat → Int) (c : List (Int × Int)) (i : Int) (hi : 0 ≤ i ∧ i < c.length) (hc : c.getD i.toNat (0, 0) = (0, 0)) :
    ∃ V, Vm.go bankM who 100 (k + 3) ⟨[⟨code1, 2, [to, n], p⟩, ⟨c, i, [], p'⟩], A, u, false, 0, 0⟩ = V ∧ V.over = true ∧
      ((¬ (lookS A to 1).2 = 0 ∧ Says V A (u + 1) (lookS A to 1).2) ∨ ((lookS A to 1).2 = 0 ∧ (lookS A to 1).1.1 = true ∧ Says V A (u + 1) 8) ∨ ((lookS A to 1).2 = 0 ∧ (lookS A to 1).1.1 = false ∧ Says V (setAc A to 1 (true, n)) (u + 3) 0)) := by
  refine ⟨_, rfl, ?_⟩
  have s1 : Vm.step bankM who (Vm.tick ⟨[⟨code1, 2, [to, n], p⟩, ⟨c, i, [], p'⟩], A, u, false, 0, 0⟩) = (if (lookS A to 1).2 ≠ 0 then Vm.giveUp ⟨[⟨code1, 2, [to, n], p⟩, ⟨c, i, [], p'⟩], A, u + 1, false, 0, 0⟩ (lookS A to 1).2
      else if (lookS A to 1).1.1 = true then Vm.giveUp ⟨[⟨code1, 2, [to, n], p⟩, ⟨c, i, [], p'⟩], A, u + 1, false, 0, 0⟩ 8
      else ⟨[⟨code1, 3, [], p⟩, ⟨c, i, [], p'⟩], setAc A to 1 (true, n), u + 1, false, 0, 0⟩) := by kernel_rfl
  unfold Vm.go
  rw [if_neg (by simp; omega), s1]
  by_cases h1 : (lookS A to 1).2 = 0
  · rw [if_neg (by simpa using h1)]
    by_cases h2 : (lookS A to 1).1.1 = true
    · rw [if_pos h2]
      unfold Vm.go
      rw [if_pos (.inl rfl)]
      exact ⟨rfl, .inr (.inl ⟨h1, h2, rfl, rfl, rfl, rfl⟩)⟩
    · rw [if_neg h2]
      have s2 : Vm.step bankM who (Vm.tick ⟨[⟨code1, 3, [], p⟩, ⟨c, i, [], p'⟩], setAc A to 1 (true, n), u + 1, false, 0, 0⟩) = ⟨[⟨c, i, [], p'⟩], setAc A to 1 (true, n), u + 1 + 1, false, 0, 0⟩ := by kernel_rfl
      have s3 : Vm.step bankM who (Vm.tick ⟨[⟨c, i, [], p'⟩], setAc A to 1 (true, n), u + 1 + 1, false, 0, 0⟩) = ⟨[⟨c, i, [], p'⟩], setAc A to 1 (true, n), u + 1 + 1 + 1, true, 0, 0⟩ := by
        unfold Vm.step
        simp only [Vm.tick]
        rw [if_neg (by omega), hc]
        rfl
      unfold Vm.go
      rw [if_neg (by simp; omega), s2]
      unfold Vm.go
      rw [if_neg (by simp; omega), s3]
      rw [go_end k rfl]
      exact ⟨rfl, .inr (.inr ⟨h1, by simpa using h2, rfl, by show u + 1 + 1 + 1 = _; omega, rfl, rfl⟩)⟩
  · rw [if_pos h1]
    unfold Vm.go
    rw [if_pos (.inl rfl)]
    exact ⟨rfl, .inl ⟨h1, rfl, rfl, rfl, rfl⟩⟩
/-- the fetch within a call of the bank's third function. -/
theorem fetch_to (A : Nat → Bool × Int) (who : Int) (c : List (Int × Int)) (hl : 1 < c.length) (hc : c.getD 0 (0, 0) = (14, 2)) :
    (¬ (amountS A who 1).2 = 0 ∧ ∃ V, Vm.go bankM who 100 100 ⟨[⟨c, 0, [], fun _ => 0⟩], A, 0, false, 0, 0⟩ = V ∧ V.over = true ∧ Says V A 2 (amountS A who 1).2) ∨
    ((amountS A who 1).2 = 0 ∧ Vm.go bankM who 100 100 ⟨[⟨c, 0, [], fun _ => 0⟩], A, 0, false, 0, 0⟩ = Vm.go bankM who 100 98 ⟨[⟨code2, 1, [(amountS A who 1).1], fun _ => 0⟩, ⟨c, 1, [], fun _ => 0⟩], setAc A who 1 (false, 0), 2, false, 0, 0⟩) := by
  have s1 : Vm.step bankM who (Vm.tick ⟨[⟨c, 0, [], fun _ => 0⟩], A, 0, false, 0, 0⟩) = ⟨[⟨code2, 0, [], fun _ => 0⟩, ⟨c, 1, [], fun _ => 0⟩], A, 1, false, 0, 0⟩ := by
    unfold Vm.step
    simp only [Vm.tick]
    rw [if_neg (by omega), show (0 : Int).toNat = 0 from rfl, hc]
    kernel_rfl
  have s2 : Vm.step bankM who (Vm.tick ⟨[⟨code2, 0, [], fun _ => 0⟩, ⟨c, 1, [], fun _ => 0⟩], A, 1, false, 0, 0⟩) = (if (amountS A who 1).2 ≠ 0 then Vm.giveUp ⟨[⟨code2, 0, [], fun _ => 0⟩, ⟨c, 1, [], fun _ => 0⟩], A, 2, false, 0, 0⟩ (amountS A who 1).2
      else ⟨[⟨code2, 1, [(amountS A who 1).1], fun _ => 0⟩, ⟨c, 1, [], fun _ => 0⟩], setAc A who 1 (false, 0), 2, false, 0, 0⟩) := by kernel_rfl
  by_cases h : (amountS A who 1).2 = 0
  · refine .inr ⟨h, ?_⟩
    rw [if_neg (by simpa using h)] at s2
    rw [go_one rfl (of_decide_eq_true rfl) s1, go_one rfl (of_decide_eq_true rfl) s2]
  · refine .inl ⟨h, _, rfl, ?_⟩
    rw [if_pos h] at s2
    rw [go_one rfl (of_decide_eq_true rfl) s1, go_one rfl (of_decide_eq_true rfl) s2, go_end _ rfl]
    exact ⟨rfl, rfl, rfl, rfl, rfl⟩

/-- what comes of a store. -/
def StoreSays (V : Vm) (A0 A : Nat → Bool × Int) (to n u : Int) : Prop :=
  (¬ (lookS A to 1).2 = 0 ∧ Says V A0 (u + 1) (lookS A to 1).2) ∨ ((lookS A to 1).2 = 0 ∧ (lookS A to 1).1.1 = true ∧ Says V A0 (u + 1) 8) ∨ ((lookS A to 1).2 = 0 ∧ (lookS A to 1).1.1 = false ∧ Says V (setAc A to 1 (true, n)) (u + 3) 0)

theorem mint_run (A : Nat → Bool × Int) (who n to : Int) : StoreSays (runV bankM (mintF n to) A who 100) A A to n 9 := by
  obtain ⟨V, h1, h2, h3⟩ := store_to A who to n 9 (by omega) 88 (fun j => if j = 0 then n else if j = 1 then to else 0) (fun _ => 0) (mintF n to).code 4 (by show (0 : Int) ≤ 4 ∧ (4 : Int) < 5; omega) rfl
  have e := goOn_end ((mint_to A who n to).trans h1) h2
  unfold runV
  rw [show Vm.start (mintF n to) A = ⟨[⟨(mintF n to).code, 0, [], fun _ => 0⟩], A, 0, false, 0, 0⟩ from rfl, e]
  exact h3
theorem give_run (A : Nat → Bool × Int) (who to : Int) :
    (¬ (amountS A who 1).2 = 0 ∧ Says (runV bankM (giveF to) A who 100) A 2 (amountS A who 1).2) ∨ ((amountS A who 1).2 = 0 ∧ StoreSays (runV bankM (giveF to) A who 100) (setAc A who 1 (false, 0)) (setAc A who 1 (false, 0)) to (amountS A who 1).1 7) := by
  rcases fetch_to A who (giveF to).code (by show 1 < 4; omega) rfl with ⟨h0, V, h1, h2, h3⟩ | ⟨h0, h1⟩
  · refine .inl ⟨h0, ?_⟩
    have e := goOn_end h1 h2
    unfold runV
    rw [show Vm.start (giveF to) A = ⟨[⟨(giveF to).code, 0, [], fun _ => 0⟩], A, 0, false, 0, 0⟩ from rfl, e]
    exact h3
  · refine .inr ⟨h0, ?_⟩
    obtain ⟨V, k1, k2, k3⟩ := store_to (setAc A who 1 (false, 0)) who to (amountS A who 1).1 7 (by omega) 90 (fun j => if j = 0 then (amountS A who 1).1 else if j = 1 then to else 0) (fun _ => 0) (giveF to).code 3 (by show (0 : Int) ≤ 3 ∧ (3 : Int) < 4; omega) rfl
    have e := goOn_end ((h1.trans (give_to _ who (amountS A who 1).1 to)).trans k1) k2
    unfold runV
    rw [show Vm.start (giveF to) A = ⟨[⟨(giveF to).code, 0, [], fun _ => 0⟩], A, 0, false, 0, 0⟩ from rfl, e]
    exact k3
theorem burn_run (A : Nat → Bool × Int) (who : Int) :
    (¬ (amountS A who 1).2 = 0 ∧ Says (runV bankM burnF A who 100) A 2 (amountS A who 1).2) ∨ ((amountS A who 1).2 = 0 ∧ Says (runV bankM burnF A who 100) (setAc A who 1 (false, 0)) 9 0) := by
  rcases fetch_to A who burnF.code (by show 1 < 4; omega) rfl with ⟨h0, V, h1, h2, h3⟩ | ⟨h0, h1⟩
  · refine .inl ⟨h0, ?_⟩
    have e := goOn_end h1 h2
    unfold runV
    rw [show Vm.start burnF A = ⟨[⟨burnF.code, 0, [], fun _ => 0⟩], A, 0, false, 0, 0⟩ from rfl, e]
    exact h3
  · refine .inr ⟨h0, ?_⟩
    have s1 : Vm.step bankM who (Vm.tick ⟨[⟨burnF.code, 3, [], fun _ => 0⟩], setAc A who 1 (false, 0), 8, false, 0, 0⟩) = ⟨[⟨burnF.code, 3, [], fun _ => 0⟩], setAc A who 1 (false, 0), 9, true, 0, 0⟩ := by kernel_rfl
    have e := goOn_end (((h1.trans (burn_to _ who (amountS A who 1).1)).trans (go_one rfl (of_decide_eq_true rfl) s1)).trans (go_end _ rfl)) rfl
    unfold runV
    rw [show Vm.start burnF A = ⟨[⟨burnF.code, 0, [], fun _ => 0⟩], A, 0, false, 0, 0⟩ from rfl, e]
    exact ⟨rfl, rfl, rfl, rfl⟩
end Go.Proofs.Ytjamgmbdilkbcaa
