import Derived.Test.YtjamgmbdilkbcaaGreatLotLedgers34
import Derived.Test.YtjamgmbdilkbcaaGreatLotLedgers35
/- What is held, by the document and by the program. No program here. -/
namespace Go.Proofs.YtjamgmbdilkbcaaGreat
open Go.RowKit Mc

namespace Dr
def Num (n : Int) : Prop := 0 <= n /\ n <= 1000000000
def val (who kind : Int) : List Hd -> Option Int
  | [] => none
  | h :: l => if h.who = who /\ h.kind = kind then some h.n else val who kind l
theorem findN_val (who kind : Int) : ∀ l : List Hd, (findN who kind l = none ↔ val who kind l = none) /\ ∀ i, findN who kind l = some i -> i < l.length /\ val who kind l = some (l.getD i ⟨0, 0, 0⟩).n
  | [] => ⟨by simp [findN, val], fun i h => by simp [findN] at h⟩
  | h :: l => by
    obtain ⟨h1, h2⟩ := findN_val who kind l
    unfold findN val
    by_cases hk : h.who = who /\ h.kind = kind
    · rw [if_pos hk, if_pos hk]
      refine ⟨by simp, fun i hi => ?_⟩
      simp only [Option.some.injEq] at hi
      subst hi
      exact ⟨by simp, by simp⟩
    · rw [if_neg hk, if_neg hk]
      refine ⟨by simpa using h1, fun i hi => ?_⟩
      cases hf : findN who kind l with
      | none => rw [hf] at hi; simp at hi
      | some j =>
        rw [hf] at hi
        simp only [Option.map_some, Option.some.injEq] at hi
        subst hi
        obtain ⟨g1, g2⟩ := h2 j hf
        exact ⟨by simpa using g1, by simpa using g2⟩
theorem find_neg {l : List Hd} {who kind : Int} : find l who kind < 0 ↔ val who kind l = none := by
  rw [<- (findN_val who kind l).1]
  unfold find
  cases findN who kind l <;> simp
theorem find_some {l : List Hd} {who kind n : Int} (h : val who kind l = some n) : ∃ i : Nat, findN who kind l = some i /\ find l who kind = i /\ i < l.length /\ (l.getD i ⟨0, 0, 0⟩).n = n := by
  cases hf : findN who kind l with
  | none => rw [(findN_val who kind l).1.1 hf] at h; simp at h
  | some i =>
    obtain ⟨h1, h2⟩ := (findN_val who kind l).2 i hf
    rw [h] at h2
    exact ⟨i, rfl, by unfold find; rw [hf], h1, by simpa using h2.symm⟩
structure HA (l : List Hd) (A : Nat -> Bool × Int) : Prop where
  look : ∀ w k, setOk w k -> (A (at_ w k)).1 = (val w k l).isSome /\ ∀ n, val w k l = some n -> (A (at_ w k)).2 = n
  nodup : l.Pairwise fun a b => ¬ (a.who = b.who /\ a.kind = b.kind)
  num : ∀ h ∈ l, Num h.n
  rng : ∀ h ∈ l, setOk h.who h.kind
theorem val_num {l : List Hd} (hn : ∀ h ∈ l, Num h.n) {w k n : Int} (h : val w k l = some n) : Num n := by
  induction l with
  | nil => simp [val] at h
  | cons a l ih =>
    unfold val at h
    split at h
    · simp only [Option.some.injEq] at h
      subst h
      exact hn a (by simp)
    · exact ih (fun x hx => hn x (by simp [hx])) h
theorem val_append (w k : Int) (x : Hd) : ∀ l : List Hd, val w k (l ++ [x]) = if (val w k l).isSome then val w k l else if x.who = w /\ x.kind = k then some x.n else none
  | [] => by simp [val]
  | a :: l => by
    have ih := val_append w k x l
    simp only [List.cons_append]
    unfold val
    split
    · simp
    · exact ih
theorem val_none_of {w k : Int} : ∀ {l : List Hd}, (∀ h ∈ l, ¬ (h.who = w /\ h.kind = k)) -> val w k l = none
  | [], _ => rfl
  | a :: l, h => by
    unfold val
    rw [if_neg (h a (by simp))]
    exact val_none_of fun x hx => h x (by simp [hx])
theorem val_erase (w k w' k' : Int) : ∀ {l : List Hd} {i : Nat}, l.Pairwise (fun a b => ¬ (a.who = b.who /\ a.kind = b.kind)) -> findN w k l = some i -> val w' k' (l.eraseIdx i) = if w' = w /\ k' = k then none else val w' k' l
  | [], _, _, h => by simp [findN] at h
  | a :: l, i, hp, h => by
    obtain ⟨p1, p2⟩ := List.pairwise_cons.1 hp
    unfold findN at h
    by_cases hk : a.who = w /\ a.kind = k
    · rw [if_pos hk] at h
      simp only [Option.some.injEq] at h
      subst h
      show val w' k' l = if w' = w /\ k' = k then none else val w' k' (a :: l)
      by_cases hw : w' = w /\ k' = k
      · rw [if_pos hw]
        refine val_none_of fun x hx hxk => p1 x hx ?_
        omega
      · rw [if_neg hw]
        unfold val
        rw [if_neg (by omega)]
        cases l <;> rfl
    · rw [if_neg hk] at h
      cases hf : findN w k l with
      | none => rw [hf] at h; simp at h
      | some j =>
        rw [hf] at h
        simp only [Option.map_some, Option.some.injEq] at h
        subst h
        have ih := val_erase w k w' k' p2 hf
        show val w' k' (a :: l.eraseIdx j) = _
        unfold val
        by_cases ha : a.who = w' /\ a.kind = k'
        · rw [if_pos ha, if_neg (by omega), if_pos ha]
        · rw [if_neg ha, if_neg ha]; exact ih
theorem at_inj {w k w' k' : Int} (h : setOk w k) (h' : setOk w' k') (e : at_ w k = at_ w' k') : w = w' /\ k = k' := by
  obtain ⟨h1, h2⟩ := h
  obtain ⟨h3, h4⟩ := h'
  unfold isAcc at h1 h3
  unfold isKd at h2 h4
  simp only [decide_eq_true_eq] at h1 h2 h3 h4
  unfold at_ at e
  omega
theorem HA.fetch {l : List Hd} {A : Nat -> Bool × Int} (h : HA l A) {w k n : Int} (hok : setOk w k) (hv : val w k l = some n) : HA (without l (find l w k)) (setAc A w k (false, 0)) := by
  obtain ⟨i, hf, hi, _, _⟩ := find_some hv
  unfold without
  rw [hi, if_neg (by omega), show ((i : Int)).toNat = i from by omega]
  refine ⟨fun w' k' hok' => ?_, h.nodup.sublist (List.eraseIdx_sublist _ _), fun x hx => h.num x (List.mem_of_mem_eraseIdx hx), fun x hx => h.rng x (List.mem_of_mem_eraseIdx hx)⟩
  rw [val_erase w k w' k' h.nodup hf]
  unfold setAc
  by_cases he : w' = w /\ k' = k
  · obtain ⟨rfl, rfl⟩ := he
    rw [if_pos rfl, if_pos ⟨rfl, rfl⟩]
    exact ⟨rfl, fun n hn => by simp at hn⟩
  · rw [if_neg (fun e => he (at_inj hok' hok e)), if_neg he]
    exact h.look w' k' hok'
theorem HA.store {l : List Hd} {A : Nat -> Bool × Int} (h : HA l A) {w k n : Int} (hok : setOk w k) (hv : val w k l = none) (hn : Num n) : HA (l ++ [⟨w, k, n⟩]) (setAc A w k (true, n)) := by
  have hnone : ∀ {l : List Hd}, val w k l = none -> ∀ x ∈ l, ¬ (x.who = w /\ x.kind = k) := by
    intro l
    induction l with
    | nil => intro _ x hx; simp at hx
    | cons a l ih =>
      intro hv x hx
      unfold val at hv
      split at hv
      · simp at hv
      · rename_i ha
        rcases List.mem_cons.1 hx with rfl | hx
        · exact ha
        · exact ih hv x hx
  refine ⟨fun w' k' hok' => ?_, ?_, fun x hx => ?_, fun x hx => ?_⟩
  · rw [val_append]
    unfold setAc
    by_cases he : w' = w /\ k' = k
    · obtain ⟨rfl, rfl⟩ := he
      rw [if_pos rfl, hv]
      simp
    · rw [if_neg (fun e => he (at_inj hok' hok e))]
      have hl := h.look w' k' hok'
      cases hw : val w' k' l with
      | none =>
        rw [hw] at hl
        simp only [Option.isSome_none, Bool.false_eq_true, if_false]
        rw [if_neg (by omega)]
        exact hl
      | some n' =>
        rw [hw] at hl
        simpa using hl
  · rw [List.pairwise_append]
    refine ⟨h.nodup, List.pairwise_singleton _ _, fun a ha b hb => ?_⟩
    simp only [List.mem_singleton] at hb
    subst hb
    exact hnone hv a ha
  · rcases List.mem_append.1 hx with hx | hx
    · exact h.num x hx
    · simp only [List.mem_singleton] at hx
      subst hx
      exact hn
  · rcases List.mem_append.1 hx with hx | hx
    · exact h.rng x hx
    · simp only [List.mem_singleton] at hx
      subst hx
      exact hok
theorem ha_none : HA [] (fun _ => (false, 0)) := ⟨fun _ _ _ => ⟨rfl, fun n h => by simp [val] at h⟩, List.Pairwise.nil, fun _ h => by simp at h, fun _ h => by simp at h⟩
theorem HA.amount {l : List Hd} {A : Nat -> Bool × Int} (h : HA l A) {w k : Int} (hok : setOk w k) : amountS A w k = match val w k l with | some n => (n, 0) | none => (0, 7) := by
  have hl : lookS A w k = (A (at_ w k), 0) := by unfold lookS; rw [if_pos (show isAcc w = true /\ isKd k = true from hok)]
  unfold amountS
  rw [hl]
  obtain ⟨h1, h2⟩ := h.look w k hok
  cases hv : val w k l with
  | none => rw [hv] at h1; simp at h1; simp [h1]
  | some n => rw [hv] at h1; simp at h1; simp [h1, h2 n hv]
end Dr
end Go.Proofs.YtjamgmbdilkbcaaGreat

/- A call's stack and places, by the document and by the program. No program here. -/
namespace Go.Proofs.YtjamgmbdilkbcaaGreat
open Go.RowKit Mc

namespace Dr
structure RR (f : Pu.Fn) (s : Fl.S) (r : Rm) (F : Fv) : Prop where
  kd : r.stk.map Prod.fst = s.stk
  vl : r.stk.map Prod.snd = F.stk.reverse
  ks : r.kinds = Fl.places f
  sl : r.spots.length = (Fl.places f).length
  full : ∀ i, i < (Fl.places f).length -> (r.spots.getD i noSpot).1 = s.full.getD i false
  sv : ∀ i, i < (Fl.places f).length -> s.full.getD i false = true -> (r.spots.getD i noSpot).2.2 = F.plc i
  num : ∀ v ∈ r.stk, Num v.2
  snum : ∀ v ∈ r.spots, Num v.2.2
  len : s.stk.length <= 16
  fl : s.full.length = 8
  pl : (Fl.places f).length <= 8
  code : F.code = f.code
section
variable {f : Pu.Fn} {s s' : Fl.S} {r : Rm} {F : Fv} {g : Gg}
theorem RR.slen (h : RR f s r F) : r.stk.length = s.stk.length /\ F.stk.length = s.stk.length := by
  have h1 := congrArg List.length h.kd
  have h2 := congrArg List.length h.vl
  simp only [List.length_map, List.length_reverse] at h1 h2
  omega
theorem RR.goto (h : RR f s r F) (a : Int) : RR f s r (F.goto a) := ⟨h.kd, h.vl, h.ks, h.sl, h.full, h.sv, h.num, h.snum, h.len, h.fl, h.pl, h.code⟩
theorem RR.take (h : RR f s r F) (he : g.err = 0) {k : Int} (ht : Fl.takeS k s = some s') :
    Dr.take k g r = (F.top, g, { r with stk := r.stk.dropLast }) /\ Num F.top /\ RR f s' { r with stk := r.stk.dropLast } F.pop /\ F.stk = F.top :: F.pop.stk := by
  unfold Fl.takeS at ht
  split at ht
  · rename_i hk
    simp only [Option.some.injEq] at ht
    subst ht
    have hne : s.stk ≠ [] := by intro e; rw [e] at hk; simp at hk
    have hrn : r.stk ≠ [] := by intro e; have := h.kd; rw [e] at this; exact hne this.symm
    obtain ⟨l, a, hl⟩ : ∃ l a, r.stk = l ++ [a] := ⟨r.stk.dropLast, r.stk.getLast hrn, (List.dropLast_concat_getLast hrn).symm⟩
    have hkd := h.kd
    have hvl := h.vl
    rw [hl] at hkd hvl
    simp only [List.map_append, List.map_cons, List.map_nil] at hkd hvl
    have hF : F.stk = a.2 :: (l.map Prod.snd).reverse := by
      have := congrArg List.reverse hvl
      simpa using this.symm
    have hka : a.1 = k := by
      rw [<- hkd] at hk
      simpa using hk
    have htop : F.top = a.2 := by unfold Fv.top; rw [hF]; rfl
    have hpop : F.pop.stk = (l.map Prod.snd).reverse := by unfold Fv.pop; rw [hF]; rfl
    refine ⟨?_, ?_, ?_, ?_⟩
    · unfold Dr.take
      rw [hl, if_pos ⟨he, by simp [hka]⟩, htop]
      simp
    · rw [htop]; exact h.num a (by rw [hl]; simp)
    · have hd : r.stk.dropLast = l := by rw [hl]; simp
      refine ⟨?_, ?_, h.ks, h.sl, h.full, h.sv, fun v hv => ?_, h.snum, ?_, h.fl, h.pl, h.code⟩
      · show r.stk.dropLast.map Prod.fst = s.stk.dropLast
        rw [hd, <- hkd]; simp
      · show r.stk.dropLast.map Prod.snd = F.pop.stk.reverse
        rw [hd, hpop]; simp
      · refine h.num v ?_
        have hv' : v ∈ r.stk.dropLast := hv
        exact List.dropLast_subset _ hv'
      · show s.stk.dropLast.length <= 16
        have := h.len
        simp; omega
    · rw [htop, hpop]; exact hF
  · simp at ht
theorem RR.put (h : RR f s r F) (he : g.err = 0) {k n : Int} (hn : Num n) (ht : Fl.putS k s = some s') :
    Dr.put k n g r = (g, { r with stk := r.stk ++ [(k, n)] }) /\ RR f s' { r with stk := r.stk ++ [(k, n)] } (F.put n) := by
  have hl := h.slen
  unfold Fl.putS at ht
  split at ht
  · rename_i hlt
    simp only [Option.some.injEq] at ht
    subst ht
    have hFp : F.put n = { F with stk := n :: F.stk } := by unfold Fv.put; rw [if_pos (by omega)]
    refine ⟨?_, ?_⟩
    · unfold Dr.put
      rw [if_neg (by simpa using he), if_neg (by omega)]
    · rw [hFp]
      refine ⟨?_, ?_, h.ks, h.sl, h.full, h.sv, fun v hv => ?_, h.snum, ?_, h.fl, h.pl, h.code⟩
      · show (r.stk ++ [(k, n)]).map Prod.fst = s.stk ++ [k]
        rw [List.map_append, h.kd]; rfl
      · show (r.stk ++ [(k, n)]).map Prod.snd = (n :: F.stk).reverse
        rw [List.map_append, h.vl]; simp
      · have hv' : v ∈ r.stk ++ [(k, n)] := hv
        rcases List.mem_append.1 hv' with hv | hv
        · exact h.num v hv
        · simp only [List.mem_singleton] at hv
          subst hv
          exact hn
      · show (s.stk ++ [k]).length <= 16
        simp; omega
  · simp at ht
theorem put_err (he : g.err ≠ 0) (k n : Int) (r : Rm) : Dr.put k n g r = (g, r) := by unfold Dr.put; rw [if_pos he]
theorem take_err (he : g.err ≠ 0) (k : Int) (r : Rm) : Dr.take k g r = (0, g, r) := by
  unfold Dr.take; rw [if_neg (fun x => he x.1)]; unfold wrong; rw [if_neg (fun x => he x.2)]
theorem wrong_no {is : Prop} [Decidable is] (h : ¬ is) (e : Int) (g : Gg) : wrong is e g = g := by unfold wrong; rw [if_neg (fun x => h x.1)]
theorem wrong_yes {is : Prop} [Decidable is] (h : is) (e : Int) (he : g.err = 0) : wrong is e g = { g with err := e } := by unfold wrong; rw [if_pos ⟨h, he⟩]
theorem put_top (hs : F.stk = F.top :: F.pop.stk) (hl : F.stk.length <= 16) : F.pop.put F.top = F := by
  have h1 : F.pop.stk.length < 16 := by have := congrArg List.length hs; simp only [List.length_cons] at this; omega
  unfold Fv.put
  rw [if_pos h1]
  cases F with
  | mk c n st p =>
    simp only [Fv.pop, Fv.mk.injEq, true_and, and_true] at hs ⊢
    exact hs.symm
def Goes (f : Pu.Fn) (s' : Fl.S) (g : Gg) (A' : Nat -> Bool × Int) (F' : Fv) (p : Gg × Rm) : Prop :=
  p.1.err = 0 /\ p.1.code = g.code /\ p.1.used = g.used /\ p.1.depth = g.depth /\ RR f s' p.2 F' /\ HA p.1.holds A'
def Gives (g : Gg) (e : Int) (p : Gg × Rm) : Prop := p.1.err = e /\ p.1.code = g.code /\ p.1.used = g.used
theorem goes_put (h : RR f s r F) (he : g.err = 0) {A : Nat -> Bool × Int} (hA : HA g.holds A) {k n : Int} (hn : Num n) (ht : Fl.putS k s = some s') : Goes f s' g A (F.put n) (Dr.put k n g r) := by
  obtain ⟨h1, h2⟩ := h.put he hn ht
  rw [h1]
  exact ⟨he, rfl, rfl, rfl, h2, hA⟩
theorem take2 (h : RR f s r F) (he : g.err = 0) {k1 k2 : Int} (ht : (Fl.takeS k1 s).bind (Fl.takeS k2) = some s') :
    ∃ r', Dr.take k1 g r = (F.top, g, { r with stk := r.stk.dropLast }) /\ Dr.take k2 g { r with stk := r.stk.dropLast } = (F.pop.top, g, r') /\ Num F.top /\ Num F.pop.top /\ RR f s' r' F.pop.pop := by
  cases h1 : Fl.takeS k1 s with
  | none => rw [h1] at ht; simp at ht
  | some t =>
    rw [h1] at ht
    simp only [Option.bind_some] at ht
    obtain ⟨a1, a2, a3, _⟩ := h.take he h1
    obtain ⟨b1, b2, b3, _⟩ := a3.take he ht
    exact ⟨_, a1, b1, a2, b2, b3⟩
theorem sim_two (h : RR f s r F) (he : g.err = 0) {A : Nat -> Bool × Int} (hA : HA g.holds A) {op : Int} (hop : op = 2 \/ op = 3 \/ op = 4 \/ op = 5) (ht : ((Fl.takeS 0 s).bind (Fl.takeS 0)).bind (Fl.putS 0) = some s') :
    ((reckonN op F.pop.top F.top < 0 \/ 1000000000 < reckonN op F.pop.top F.top) /\ Gives g 6 (two op g r)) \/
    (¬ (reckonN op F.pop.top F.top < 0 \/ 1000000000 < reckonN op F.pop.top F.top) /\ Goes f s' g A (F.pop.pop.put (reckonN op F.pop.top F.top)) (two op g r)) := by
  cases h1 : (Fl.takeS 0 s).bind (Fl.takeS 0) with
  | none => rw [h1] at ht; simp at ht
  | some t =>
    rw [h1] at ht
    simp only [Option.bind_some] at ht
    obtain ⟨r', a1, a2, n1, n2, a3⟩ := take2 h he h1
    have fin : ∀ n, Num n -> Goes f s' g A (F.pop.pop.put n) (Dr.put 0 n g r') := fun n hn => goes_put a3 he hA hn ht
    unfold two
    simp only [a1, a2]
    obtain ⟨x1, x2⟩ := n1
    obtain ⟨y1, y2⟩ := n2
    have w1 : wrap64 (F.pop.top + F.top) = F.pop.top + F.top := by unfold wrap64; omega
    have w2 : wrap64 (F.pop.top - F.top) = F.pop.top - F.top := by unfold wrap64; omega
    rw [w1, w2]
    unfold reckonN
    rw [w1, w2]
    rcases hop with rfl | rfl | rfl | rfl
    · simp only [if_true]
      by_cases hb : 1000000000 < F.pop.top + F.top
      · left
        rw [wrong_yes hb 6 he, put_err (by simp)]
        exact ⟨.inr hb, rfl, rfl, rfl⟩
      · right
        rw [wrong_no hb]
        exact ⟨by omega, fin _ ⟨by omega, by omega⟩⟩
    · simp only [show ¬ ((3 : Int) = 2) from by decide, if_false, if_true]
      by_cases hb : F.pop.top < F.top
      · left
        rw [wrong_yes hb 6 he, put_err (by simp)]
        exact ⟨.inl (by omega), rfl, rfl, rfl⟩
      · right
        rw [wrong_no hb]
        exact ⟨by omega, fin _ ⟨by omega, by omega⟩⟩
    · simp only [show ¬ ((4 : Int) = 2) from by decide, show ¬ ((4 : Int) = 3) from by decide, if_false, if_true]
      right
      split
      · exact ⟨by decide, fin _ ⟨by decide, by decide⟩⟩
      · exact ⟨by decide, fin _ ⟨by decide, by decide⟩⟩
    · simp only [show ¬ ((5 : Int) = 2) from by decide, show ¬ ((5 : Int) = 3) from by decide, show ¬ ((5 : Int) = 4) from by decide, if_false, if_true]
      right
      split
      · exact ⟨by decide, fin _ ⟨by decide, by decide⟩⟩
      · exact ⟨by decide, fin _ ⟨by decide, by decide⟩⟩
end
end Dr
end Go.Proofs.YtjamgmbdilkbcaaGreat

/- Instructions, by the document and by the program. No program here. -/
namespace Go.Proofs.YtjamgmbdilkbcaaGreat
open Go.RowKit Mc

namespace Dr
theorem getD_set {α : Type} (l : List α) (i j : Nat) (v d : α) (hi : i < l.length) : (l.set i v).getD j d = if j = i then v else l.getD j d := by
  rw [List.getD_eq_getElem?_getD, List.getD_eq_getElem?_getD, List.getElem?_set]
  by_cases h : i = j
  · subst h; simp [hi]
  · rw [if_neg h, if_neg (fun e => h e.symm)]
section
variable {m : Pu.Md} {f : Pu.Fn} {s s' : Fl.S} {r : Rm} {F : Fv} {g : Gg} {A : Nat -> Bool × Int}
theorem RR.setSpot (h : RR f s r F) {i : Nat} (hi : i < (Fl.places f).length) (b : Bool) (k n : Int) (hn : Num n) (F' : Fv) (hs : F'.stk = F.stk) (hc : F'.code = F.code) (hp : ∀ j, j < (Fl.places f).length -> (if j = i then b else s.full.getD j false) = true -> (if j = i then n else (r.spots.getD j noSpot).2.2) = F'.plc j) :
    RR f ⟨s.stk, s.full.set i b⟩ { r with spots := r.spots.set i (b, k, n) } F' := by
  have h1 := h.sl
  have h2 := h.fl
  have h3 := h.pl
  refine ⟨h.kd, by rw [hs]; exact h.vl, h.ks, by simpa using h.sl, fun j hj => ?_, fun j hj hf => ?_, h.num, fun v hv => ?_, h.len, by simpa using h.fl, h.pl, hc.trans h.code⟩
  · show ((r.spots.set i (b, k, n)).getD j noSpot).1 = (s.full.set i b).getD j false
    rw [getD_set _ _ _ _ _ (by omega), getD_set _ _ _ _ _ (by omega)]
    by_cases hj2 : j = i
    · rw [if_pos hj2, if_pos hj2]
    · rw [if_neg hj2, if_neg hj2]; exact h.full j hj
  · have hf' : (s.full.set i b).getD j false = true := hf
    rw [getD_set _ _ _ _ _ (by omega)] at hf'
    show ((r.spots.set i (b, k, n)).getD j noSpot).2.2 = F'.plc j
    rw [getD_set _ _ _ _ _ (by omega), <- hp j hj hf']
    by_cases hj2 : j = i
    · rw [if_pos hj2, if_pos hj2]
    · rw [if_neg hj2, if_neg hj2]
  · have hv' : v ∈ r.spots.set i (b, k, n) := hv
    rcases List.mem_or_eq_of_mem_set hv' with hv | rfl
    · exact h.snum v hv
    · exact hn
theorem RR.kindAt (h : RR f s r F) (i : Nat) : r.kinds.getD i 0 = (Fl.places f).getD i 0 := by rw [h.ks]
theorem RR.spotNum (h : RR f s r F) (i : Nat) : Num (r.spots.getD i noSpot).2.2 := by
  rw [List.getD_eq_getElem?_getD]
  by_cases hi : i < r.spots.length
  · rw [List.getElem?_eq_getElem hi]; exact h.snum _ (List.getElem_mem hi)
  · rw [List.getElem?_eq_none (by omega)]; exact ⟨by decide, by decide⟩
theorem sim_dup (h : RR f s r F) (he : g.err = 0) (hA : HA g.holds A) {a : Int} (ha : 0 <= a /\ a < (Fl.places f).length) (ht : Fl.copyS m f a.toNat s = some s') : Goes f s' g A (F.put (F.heldAt a)) (spot m 8 a.toNat g r) := by
  have hpl := h.pl
  unfold Fl.copyS at ht
  split at ht
  · rename_i hc
    have hi : a.toNat < (Fl.places f).length := by omega
    have hf := h.full _ hi
    rw [hc.1] at hf
    have hv := h.sv _ hi hc.1
    have hh : F.heldAt a = F.plc a.toNat := by unfold Fv.heldAt; rw [if_neg (by omega)]
    unfold spot
    simp only [if_true]
    rw [h.kindAt, hf, hv, hc.2, wrong_no (by simp), hh]
    rw [<- hv]
    exact goes_put h he hA (h.spotNum _) ht
  · simp at ht
theorem sim_move (h : RR f s r F) (he : g.err = 0) (hA : HA g.holds A) {a : Int} (ha : 0 <= a /\ a < (Fl.places f).length) (ht : Fl.moveS f a.toNat s = some s') : Goes f s' g A (F.put (F.heldAt a)) (spot m 9 a.toNat g r) := by
  have hpl := h.pl
  unfold Fl.moveS at ht
  split at ht
  · rename_i hc
    have hi : a.toNat < (Fl.places f).length := by omega
    have hf := h.full _ hi
    rw [hc] at hf
    have hv := h.sv _ hi hc
    have hh : F.heldAt a = F.plc a.toNat := by unfold Fv.heldAt; rw [if_neg (by omega)]
    have h0 := h.setSpot hi false 0 0 ⟨by decide, by decide⟩ F rfl rfl (fun j hj hf2 => by
      by_cases e : j = a.toNat
      · rw [if_pos e] at hf2; exact absurd hf2 (by decide)
      · rw [if_neg e] at hf2 ⊢; exact h.sv j hj hf2)
    have hn := h.spotNum a.toNat
    obtain ⟨p1, p2⟩ := h0.put (g := g) he hn ht
    have hlt : s.stk.length < 16 := by
      unfold Fl.putS at ht
      split at ht
      · rename_i hx; exact hx
      · simp at ht
    have q1 : Dr.put ((Fl.places f).getD a.toNat 0) (r.spots.getD a.toNat noSpot).2.2 g r = (g, { r with stk := r.stk ++ [((Fl.places f).getD a.toNat 0, (r.spots.getD a.toNat noSpot).2.2)] }) := by
      unfold Dr.put
      rw [if_neg (by simpa using he), if_neg (by have := h.slen; omega)]
    unfold spot
    simp only [show ¬ ((9 : Int) = 8) from by decide, if_false, if_true]
    rw [h.kindAt, hf, wrong_no (by simp), q1, hh]
    rw [<- hv]
    exact ⟨he, rfl, rfl, rfl, p2, hA⟩
  · simp at ht
theorem sim_keep (h : RR f s r F) (he : g.err = 0) (hA : HA g.holds A) {a : Int} (ha : 0 <= a /\ a < (Fl.places f).length) (ht : Fl.keepS m f a.toNat s = some s') : Goes f s' g A (F.pop.keep a F.top) (spot m 10 a.toNat g r) := by
  have hpl := h.pl
  have hi : a.toNat < (Fl.places f).length := by omega
  unfold Fl.keepS at ht
  cases h1 : Fl.takeS ((Fl.places f).getD a.toNat 0) s with
  | none => rw [h1] at ht; simp at ht
  | some u =>
    rw [h1] at ht
    simp only [Option.bind_some] at ht
    split at ht
    · rename_i hc
      simp only [Option.some.injEq] at ht
      subst ht
      obtain ⟨a1, a2, a3, _⟩ := h.take he h1
      have hfu : u.full = s.full := by
        unfold Fl.takeS at h1
        split at h1
        · simp only [Option.some.injEq] at h1; rw [<- h1]
        · simp at h1
      have hf := h.full _ hi
      have hkp : F.pop.keep a F.top = { F.pop with plc := fun j => if j = a.toNat then F.top else F.plc j } := by unfold Fv.keep; rw [if_neg (by omega)]; rfl
      have h0 := a3.setSpot hi true ((Fl.places f).getD a.toNat 0) F.top a2 { F.pop with plc := fun j => if j = a.toNat then F.top else F.plc j } rfl rfl (fun j hj hf2 => by
        show _ = if j = a.toNat then F.top else F.plc j
        by_cases e : j = a.toNat
        · rw [if_pos e, if_pos e]
        · rw [if_neg e] at hf2 ⊢
          rw [if_neg e]
          exact a3.sv j hj hf2)
      have hnw : ¬ ((r.spots.getD a.toNat noSpot).1 = true /\ Fl.may m ((Fl.places f).getD a.toNat 0) 2 = false) := fun x => by
        unfold Fl.canLose at hc
        rw [hfu, <- hf, x.1, x.2] at hc
        simp at hc
      unfold spot
      simp only [show ¬ ((10 : Int) = 8) from by decide, show ¬ ((10 : Int) = 9) from by decide, if_false]
      rw [h.kindAt, a1, hkp]
      simp only
      rw [wrong_no hnw]
      exact ⟨he, rfl, rfl, rfl, h0, hA⟩
    · simp at ht
theorem sim_drop (h : RR f s r F) (he : g.err = 0) (hA : HA g.holds A) (ht : Fl.dropS m s = some s') : Goes f s' g A F.pop (drop m g r) := by
  unfold Fl.dropS at ht
  split at ht
  · rename_i hc
    simp only [Option.some.injEq] at ht
    have hl : (r.stk.getLast?).map (·.1) = s.stk.getLast? := by
      rw [<- h.kd, List.getLast?_map]
    have hne : r.stk ≠ [] := by intro e; have := h.kd; rw [e] at this; exact hc.1 this.symm
    have htk : Fl.takeS (s.stk.getLast?.getD 0) s = some s' := by
      unfold Fl.takeS
      rw [if_pos ?_, ht]
      rw [List.getLast?_eq_some_getLast hc.1]; rfl
    obtain ⟨a1, _, a3, _⟩ := h.take he htk
    unfold drop
    simp only
    rw [wrong_no hne, if_pos he, hl, hc.2, wrong_no (by simp), a1]
    exact ⟨he, rfl, rfl, rfl, a3, hA⟩
  · simp at ht
theorem sim_turn (h : RR f s r F) (he : g.err = 0) (hA : HA g.holds A) {k1 k2 : Int} (ht : (Fl.takeS k1 s).bind (Fl.putS k2) = some s') : Goes f s' g A F (Dr.put k2 (Dr.take k1 g r).1 (Dr.take k1 g r).2.1 (Dr.take k1 g r).2.2) := by
  cases h1 : Fl.takeS k1 s with
  | none => rw [h1] at ht; simp at ht
  | some u =>
    rw [h1] at ht
    simp only [Option.bind_some] at ht
    obtain ⟨a1, a2, a3, a4⟩ := h.take he h1
    have hl := h.slen
    have := h.len
    rw [a1]
    have k := goes_put a3 he hA a2 ht
    rw [put_top a4 (by omega)] at k
    exact k
theorem look_ok2 {w k : Int} (hok : setOk w k) (A : Nat -> Bool × Int) : lookS A w k = (A (at_ w k), 0) := by
  unfold lookS
  rw [if_pos (show isAcc w = true /\ isKd k = true from hok)]
theorem look_bad {w k : Int} (h : 8 <= w) (A : Nat -> Bool × Int) : lookS A w k = ((false, 0), 4) := by
  unfold lookS
  rw [if_neg (by unfold isAcc; simp; omega)]
theorem setOk_of {w k : Int} (h1 : 0 <= w /\ w < 8) (h2 : 1 <= k /\ k <= 6) : setOk w k := ⟨by unfold isAcc; simpa using h1, by unfold isKd; simpa using h2⟩
theorem sim_fetch (h : RR f s r F) (he : g.err = 0) (hA : HA g.holds A) {who k : Int} (hw : 0 <= who /\ who < 8) (hk : 1 <= k /\ k <= 6) (ht : Fl.putS k s = some s') :
    ((amountS A who k).2 ≠ 0 /\ Gives g (amountS A who k).2 (account who 15 k g r)) \/ ((amountS A who k).2 = 0 /\ Goes f s' g (setAc A who k (false, 0)) (F.put (amountS A who k).1) (account who 15 k g r)) := by
  have hok := setOk_of hw hk
  rw [hA.amount hok]
  unfold account
  simp only [if_true]
  cases hv : val who k g.holds with
  | none =>
    left
    rw [wrong_yes (find_neg.2 hv) 7 he, if_neg (by simp)]
    exact ⟨by simp, rfl, rfl, rfl⟩
  | some n =>
    right
    obtain ⟨i, _, hi, _, hn⟩ := find_some hv
    have hnn : ¬ find g.holds who k < 0 := by omega
    rw [wrong_no hnn, if_pos he, hi, show ((i : Int)).toNat = i from by omega, hn]
    have hF := hA.fetch hok hv
    rw [hi] at hF
    have k := goes_put (g := { g with holds := without g.holds i }) h he hF (val_num hA.num hv) ht
    exact ⟨rfl, k⟩
theorem sim_has (h : RR f s r F) (he : g.err = 0) (hA : HA g.holds A) {who k : Int} (hk : 1 <= k /\ k <= 6) (ht : (Fl.takeS 0 s).bind (Fl.putS 0) = some s') :
    ((lookS A F.top k).2 ≠ 0 /\ Gives g (lookS A F.top k).2 (account who 17 k g r)) \/ ((lookS A F.top k).2 = 0 /\ Goes f s' g A (F.pop.put (if (lookS A F.top k).1.1 = true then 1 else 0)) (account who 17 k g r)) := by
  cases h1 : Fl.takeS 0 s with
  | none => rw [h1] at ht; simp at ht
  | some u =>
    rw [h1] at ht
    simp only [Option.bind_some] at ht
    obtain ⟨a1, a2, a3, _⟩ := h.take he h1
    unfold account
    simp only [show ¬ ((17 : Int) = 15) from by decide, if_false, if_true]
    rw [a1]
    simp only
    by_cases h8 : 8 <= F.top
    · left
      rw [look_bad h8, wrong_yes h8 4 he, put_err (by simp)]
      exact ⟨by simp, rfl, rfl, rfl⟩
    · right
      have hok := setOk_of ⟨a2.1, by omega⟩ hk
      rw [look_ok2 hok, wrong_no h8]
      refine ⟨rfl, ?_⟩
      have hl := (hA.look _ _ hok).1
      have e : (if 0 <= find g.holds F.top k then (1 : Int) else 0) = if (A (at_ F.top k)).1 = true then 1 else 0 := by
        rw [hl]
        cases hv : val F.top k g.holds with
        | none => have := find_neg.2 hv; rw [if_neg (by omega)]; simp
        | some n => obtain ⟨i, _, hi, _⟩ := find_some hv; rw [if_pos (by omega)]; simp
      rw [e]
      exact goes_put a3 he hA (by split <;> exact ⟨by decide, by decide⟩) ht
theorem sim_store (h : RR f s r F) (he : g.err = 0) (hA : HA g.holds A) {who k : Int} (hk : 1 <= k /\ k <= 6) (ht : (Fl.takeS 0 s).bind (Fl.takeS k) = some s') :
    ((lookS A F.top k).2 ≠ 0 /\ Gives g (lookS A F.top k).2 (account who 16 k g r)) \/ ((lookS A F.top k).2 = 0 /\ (lookS A F.top k).1.1 = true /\ Gives g 8 (account who 16 k g r)) \/
    ((lookS A F.top k).2 = 0 /\ ¬ (lookS A F.top k).1.1 = true /\ Goes f s' g (setAc A F.top k (true, F.pop.top)) F.pop.pop (account who 16 k g r)) := by
  cases h1 : Fl.takeS 0 s with
  | none => rw [h1] at ht; simp at ht
  | some u =>
    rw [h1] at ht
    simp only [Option.bind_some] at ht
    obtain ⟨a1, a2, a3, _⟩ := h.take he h1
    obtain ⟨b1, b2, b3, _⟩ := a3.take he ht
    have hlast : (({ r with stk := r.stk.dropLast } : Rm).stk.getLast?).map (·.1) = some k := by
      have := a3.kd
      rw [<- List.getLast?_map, this]
      unfold Fl.takeS at ht
      split at ht
      · rename_i hx; exact hx
      · simp at ht
    unfold account
    simp only [show ¬ ((16 : Int) = 15) from by decide, show ¬ ((16 : Int) = 17) from by decide, if_false, if_true]
    rw [a1]
    simp only at hlast ⊢
    by_cases h8 : 8 <= F.top
    · left
      have e2 : ∀ {is : Prop} [Decidable is] (e : Int), wrong is e { g with err := 4 } = { g with err := 4 } := fun e => by unfold wrong; rw [if_neg (fun x => absurd x.2 (by simp))]
      rw [look_bad h8, wrong_yes h8 4 he, e2, e2, take_err (by simp)]
      simp only
      rw [if_neg (by simp)]
      exact ⟨by simp, rfl, rfl, rfl⟩
    · right
      have hok := setOk_of ⟨a2.1, by omega⟩ hk
      have hl := (hA.look _ _ hok).1
      rw [look_ok2 hok, wrong_no h8, wrong_no (is := ¬ Option.map (fun x => x.1) r.stk.dropLast.getLast? = some k) (by rw [hlast]; simp)]
      cases hv : val F.top k g.holds with
      | some n =>
        left
        obtain ⟨i, _, hi, _⟩ := find_some hv
        rw [hv] at hl
        rw [wrong_yes (by omega : 0 <= find g.holds F.top k) 8 he, take_err (by simp)]
        simp only
        rw [if_neg (by simp)]
        exact ⟨by simp, by simpa using hl, rfl, rfl, rfl⟩
      | none =>
        right
        rw [hv] at hl
        have := find_neg.2 hv
        rw [wrong_no (is := 0 <= find g.holds F.top k) (by omega), b1]
        simp only
        rw [if_pos he]
        exact ⟨by simp, by simpa using hl, he, rfl, rfl, rfl, b3, hA.store hok hv b2⟩
end
end Dr
end Go.Proofs.YtjamgmbdilkbcaaGreat
