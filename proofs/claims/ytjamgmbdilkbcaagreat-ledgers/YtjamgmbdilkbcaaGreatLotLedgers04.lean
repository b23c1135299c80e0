import Derived.Test.YtjamgmbdilkbcaaGreatLotLedgers03
import Derived.Deep.RegionHeld3
/- Plain: what is read is what is written. -/
namespace Go.Proofs.YtjamgmbdilkbcaaGreat
namespace Pu

def rest (b : ByteArray) (s : St) : List UInt8 := b.data.toList.drop s.1
theorem byte_u8 (c : UInt8) : byte (c.toNat : Int) = c := by
  unfold byte
  have := UInt8.toNat_lt c
  have h : ((c.toNat : Int) % 256).toNat = c.toNat := by omega
  rw [h]
  exact UInt8.ofNat_toNat
theorem number_ok {b : ByteArray} {lo hi : Int} {s : St} (h : (number b lo hi s).2.2 = false) :
    s.2 = false /\ rest b s = byte (number b lo hi s).1 :: rest b (number b lo hi s).2 /\ lo <= (number b lo hi s).1 /\ (number b lo hi s).1 <= hi /\ 0 <= (number b lo hi s).1 /\ (number b lo hi s).1 <= 255 := by
  have hrng := number_rng b lo hi s
  revert h hrng
  unfold number
  split
  · rename_i h1
    intro h; simp [h1] at h
  · rename_i h1
    split
    · intro h; simp at h
    · rename_i h2
      split
      · intro h; simp at h
      · rename_i h3
        intro _ hrng
        have hlt : s.1 < b.data.toList.length := by simp at h2 ⊢; exact h2
        refine ⟨by simpa using h1, ?_, by simp only; omega, by simp only; omega, hrng.1, hrng.2⟩
        simp only [rest]
        rw [List.drop_eq_getElem_cons hlt, byte_u8]
        congr 1
        rw [List.getD_eq_getElem?_getD, List.getElem?_eq_getElem hlt]
        rfl
theorem nums_ok {b : ByteArray} {hi : Int} {s : St} : ∀ {k : Nat}, (nums b hi s k).2.2 = false ->
    s.2 = false /\ rest b s = (nums b hi s k).1.map byte ++ rest b (nums b hi s k).2 /\ ∀ x ∈ (nums b hi s k).1, 0 <= x /\ x <= hi
  | 0, h => ⟨h, by simp [nums], by simp [nums]⟩
  | k + 1, h => by
    have h1 := number_ok (b := b) (lo := 0) (hi := hi) (s := (nums b hi s k).2) h
    have h2 := nums_ok h1.1
    refine ⟨h2.1, ?_, ?_⟩
    · rw [h2.2.1, h1.2.1]
      simp [nums]
    · intro x hx
      simp only [nums, List.mem_append, List.mem_singleton] at hx
      rcases hx with hx | hx
      · exact h2.2.2 x hx
      · subst hx; exact ⟨h1.2.2.1, h1.2.2.2.1⟩
theorem list_ok {b : ByteArray} {most hi : Int} {s : St} (h : (list b most hi s).2.2 = false) :
    s.2 = false /\ rest b s = wList (list b most hi s).1 ++ rest b (list b most hi s).2 /\ isList (list b most hi s).1 most hi = true := by
  have h1 := nums_ok (b := b) (hi := hi) h
  have h2 := number_ok h1.1
  have hl : (list b most hi s).1.length = (number b 0 most s).1.toNat := nums_len _ _ _ _
  refine ⟨h2.1, ?_, ?_⟩
  · rw [h2.2.1, h1.2.1, wList, hl]
    have : ((number b 0 most s).1.toNat : Int) = (number b 0 most s).1 := by omega
    rw [this]
    rfl
  · simp only [isList, Bool.and_eq_true, decide_eq_true_eq, List.all_eq_true]
    refine ⟨by omega, fun x hx => h1.2.2 x hx⟩
theorem wCode_snoc (l : List (Int × Int)) (x : Int × Int) : wCode (l ++ [x]) = wCode l ++ [byte x.1, byte x.2] := by simp [wCode]
theorem code_ok {b : ByteArray} {ki fu pl n : Int} {s : St} : ∀ {k : Nat}, (code b ki fu pl n s k).2.2 = false ->
    s.2 = false /\ rest b s = wCode (code b ki fu pl n s k).1 ++ rest b (code b ki fu pl n s k).2 /\ isCode (code b ki fu pl n s k).1 ki fu pl n = true
  | 0, h => ⟨h, by simp [code, wCode], by simp [code, isCode]⟩
  | k + 1, h => by
    have h1 := number_ok h
    have h2 := number_ok h1.1
    have h3 := code_ok h2.1
    refine ⟨h3.1, ?_, ?_⟩
    · rw [h3.2.1, h2.2.1, h1.2.1]
      simp only [code, wCode_snoc, List.append_assoc, List.cons_append, List.nil_append]
    · have h4 := h3.2.2
      simp only [isCode, List.all_eq_true] at h4
      simp only [code, isCode, List.all_append, List.all_cons, List.all_nil, Bool.and_true, Bool.and_eq_true, List.all_eq_true]
      refine ⟨h4, ?_⟩
      simp only [isInstr, Bool.and_eq_true, decide_eq_true_eq]
      exact ⟨⟨⟨h2.2.2.1, h2.2.2.2.1⟩, h1.2.2.1⟩, h1.2.2.2.1⟩
theorem func_ok {b : ByteArray} {ki fu : Int} {s : St} (h : (func b ki fu s).2.2 = false) :
    s.2 = false /\ rest b s = wFn (func b ki fu s).1 ++ rest b (func b ki fu s).2 /\ isFn (func b ki fu s).1 ki fu = true := by
  have h1 := code_ok h
  have h2 := number_ok h1.1
  have h3 := list_ok h2.1
  have h4 := list_ok h3.1
  have h5 := list_ok h4.1
  have hcl : ∀ pl n s k, (code b ki fu pl n s k).1.length = k := fun pl n s k => code_len _ _ _ _ _ _ _
  refine ⟨h5.1, ?_, ?_⟩
  · rw [h5.2.1, h4.2.1, h3.2.1, h2.2.1, h1.2.1]
    simp only [func, wFn, hcl, List.append_assoc, List.cons_append]
    rw [Int.toNat_of_nonneg h2.2.2.2.2.1]
  · simp only [func, isFn, Bool.and_eq_true, decide_eq_true_eq, hcl]
    refine ⟨h5.2.2, h4.2.2, h3.2.2, by omega, by omega, ?_⟩
    rw [Int.toNat_of_nonneg h2.2.2.2.2.1]
    exact h1.2.2
theorem wFns_snoc (l : List Fn) (x : Fn) : wFns (l ++ [x]) = wFns l ++ wFn x := by simp [wFns]
theorem fns_ok {b : ByteArray} {ki fu : Int} {s : St} : ∀ {k : Nat}, (fns b ki fu s k).2.2 = false ->
    s.2 = false /\ rest b s = wFns (fns b ki fu s k).1 ++ rest b (fns b ki fu s k).2 /\ ∀ f ∈ (fns b ki fu s k).1, isFn f ki fu = true
  | 0, h => ⟨h, by simp [fns, wFns], by simp [fns]⟩
  | k + 1, h => by
    have h1 := func_ok h
    have h2 := fns_ok h1.1
    refine ⟨h2.1, ?_, ?_⟩
    · rw [h2.2.1, h1.2.1]
      simp only [fns, wFns_snoc, List.append_assoc]
    · intro f hf
      simp only [fns, List.mem_append, List.mem_singleton] at hf
      rcases hf with hf | hf
      · exact h2.2.2 f hf
      · subst hf; exact h1.2.2
theorem module_ok {b : ByteArray} (h : (module b).2.2 = false) : b.data.toList = wMd (module b).1 ++ rest b (module b).2 /\ isMd (module b).1 = true := by
  have h1 := fns_ok h
  have h2 := number_ok h1.1
  have h3 := list_ok h2.1
  have h4 := number_ok h3.1
  have h5 := number_ok h4.1
  have hfl : ∀ ki fu s k, (fns b ki fu s k).1.length = k := fun ki fu s k => fns_len _ _ _ _ _
  constructor
  · have e : b.data.toList = rest b (0, false) := by simp [rest]
    have e5 : byte (number b 67 67 (0, false)).1 = 67 := by
      have : (number b 67 67 (0, false)).1 = 67 := by omega
      rw [this]; decide
    have e4 : byte (number b 70 70 (number b 67 67 (0, false)).2).1 = 70 := by
      have : (number b 70 70 (number b 67 67 (0, false)).2).1 = 70 := by omega
      rw [this]; decide
    rw [e, h5.2.1, h4.2.1, h3.2.1, h2.2.1, h1.2.1]
    simp only [module, wMd, hfl, List.append_assoc, List.cons_append, e5, e4]
    rw [Int.toNat_of_nonneg h2.2.2.2.2.1]
  · simp only [module, isMd, Bool.and_eq_true, decide_eq_true_eq, List.all_eq_true, hfl]
    refine ⟨h3.2.2, by omega, by omega, fun f hf => ?_⟩
    rw [Int.toNat_of_nonneg h2.2.2.2.2.1]
    exact h1.2.2 f hf
theorem canon {b : ByteArray} (h : (decode b).2.1 = 0) : encode (decode b).1 = (b.data.toList, 0) := by
  revert h
  unfold decode
  split
  · intro h; simp at h
  · rename_i h1
    simp only
    split
    · intro h; simp at h
    · rename_i h2
      intro _
      have h3 : ¬ (module b).2.1 < b.size := by
        intro hc; simp [atEnd, hc] at h2
      have h4 : (module b).2.2 = false := by
        simp only [atEnd, h3, if_false] at h2; simpa using h2
      obtain ⟨k1, k2⟩ := module_ok h4
      have hn : rest b (module b).2 = [] := by
        simp only [rest, List.drop_eq_nil_iff]
        simpa using h3
      rw [hn, List.append_nil] at k1
      show encode (module b).1 = _
      unfold encode
      rw [if_pos k2, <- k1, if_neg (by simpa using h1)]
end Pu
end Go.Proofs.YtjamgmbdilkbcaaGreat

/- A module that was read can be written: the bridge; the bank. -/
namespace Go.Proofs.YtjamgmbdilkbcaaGreat
open Go.RowKit

theorem addr_add (g j : Nat) : (⟨g, 0, none⟩ : Addr).add j = ⟨g, 0 + j, none⟩ := by unfold Addr.add; split <;> simp_all
theorem owns_len {w : World} {B e size n : Nat} {v : Value} {xs : List Value} (h : w.ownsRow B e size v n xs) : n <= maxLen := by
  rcases h.2 with ⟨_, rfl⟩ | ⟨g, cap, cur, _, _, _, h1, h2, _⟩
  · exact Nat.zero_le _
  · exact Nat.le_trans h1 h2
theorem owns_ints {w : World} {B : Nat} {v : Value} {l : List Int} (h : w.ownsRow B 3 1 v l.length (l.map (Value.int .i64))) : IntsR w w.heap.size v l := by
  have h' := h
  rcases h.2 with ⟨rfl, h0⟩ | ⟨g, cap, cur, rfl, hB, hg, _⟩
  · have : l = [] := List.eq_nil_of_length_eq_zero h0
    subst this
    exact ⟨none, 0, 0, 0, rfl, fun h => absurd h (by simp), fun j hj => absurd hj (by simp)⟩
  · refine ⟨some ⟨g, 0, none⟩, cap, g, 0, rfl, fun _ => ⟨rfl, (Array.getElem?_eq_some_iff.1 hg).1⟩, fun j hj => ?_⟩
    have := h'.cells (g := g) rfl j (.int .i64 (l.getD j 0)) (by simp [List.getD_eq_getElem?_getD, hj])
    rwa [addr_add] at this
theorem cc_get (l : List (Int × Int)) : ∀ j, j < l.length -> (cc l)[j * 2]? = some (.int .i64 (l.getD j (0, 0)).1) /\ (cc l)[j * 2 + 1]? = some (.int .i64 (l.getD j (0, 0)).2) := by
  induction l with
  | nil => intro j hj; simp at hj
  | cons a l ih =>
    intro j hj
    have e : cc (a :: l) = .int .i64 a.1 :: .int .i64 a.2 :: cc l := by simp [cc]
    rw [e]
    cases j with
    | zero => simp
    | succ j =>
      have := ih j (by simpa using hj)
      rw [show (j + 1) * 2 = j * 2 + 1 + 1 from by omega]
      simpa using this
theorem owns_code {w : World} {B : Nat} {v : Value} {l : List (Int × Int)} (h : w.ownsRow B 56 2 v l.length (cc l)) : CodeR w w.heap.size v l := by
  have h' := h
  rcases h.2 with ⟨rfl, h0⟩ | ⟨g, cap, cur, rfl, hB, hg, _⟩
  · have : l = [] := List.eq_nil_of_length_eq_zero h0
    subst this
    exact ⟨none, 0, 0, 0, rfl, fun h => absurd h (by simp), fun j hj => absurd hj (by simp)⟩
  · refine ⟨some ⟨g, 0, none⟩, cap, g, 0, rfl, fun _ => ⟨rfl, (Array.getElem?_eq_some_iff.1 hg).1⟩, fun j hj => ?_⟩
    have hc := cc_get l j hj
    have h1 := h'.cells (g := g) rfl _ _ hc.1
    have h2 := h'.cells (g := g) rfl _ _ hc.2
    rw [addr_add] at h1 h2
    exact ⟨h1, by simpa [Nat.add_assoc] using h2⟩
theorem FnAt.reads {w : World} {B : Nat} {f : Pu.Fn} {x : FV} (h : FnAt w B f x) : FnR w w.heap.size x f :=
  ⟨owns_ints h.p, owns_ints h.r, owns_ints h.l, owns_code h.c, owns_len h.p, owns_len h.r, owns_len h.l, owns_len h.c⟩
theorem FnsAt.get {w : World} {B : Nat} : ∀ {fs : List Pu.Fn} {xs : List FV}, FnsAt w B fs xs -> ∀ j, j < fs.length -> ∃ x, (fc xs)[j * 4]? = some x.p /\ (fc xs)[j * 4 + 1]? = some x.r /\ (fc xs)[j * 4 + 2]? = some x.l /\ (fc xs)[j * 4 + 3]? = some x.c /\ FnAt w B (fs.getD j ⟨[], [], [], []⟩) x
  | [], [], _ => fun j hj => absurd hj (by simp)
  | f :: fs, x :: xs, h => fun j hj => by
    rw [fc_cons]
    cases j with
    | zero => exact ⟨x, by simp [FV.cells], by simp [FV.cells], by simp [FV.cells], by simp [FV.cells], h.1⟩
    | succ j =>
      obtain ⟨y, g0, g1, g2, g3, hy⟩ := FnsAt.get h.2 j (by simpa using hj)
      refine ⟨y, ?_, ?_, ?_, ?_, by simpa using hy⟩
      · rw [show (j + 1) * 4 = j * 4 + 1 + 1 + 1 + 1 from by omega]; simpa [FV.cells] using g0
      · rw [show (j + 1) * 4 + 1 = j * 4 + 1 + 1 + 1 + 1 + 1 from by omega]; simpa [FV.cells] using g1
      · rw [show (j + 1) * 4 + 2 = j * 4 + 2 + 1 + 1 + 1 + 1 from by omega]; simpa [FV.cells] using g2
      · rw [show (j + 1) * 4 + 3 = j * 4 + 3 + 1 + 1 + 1 + 1 from by omega]; simpa [FV.cells] using g3
  | [], _ :: _, h => h.elim
  | _ :: _, [], h => h.elim
theorem mdAt_reads {w : World} {B : Nat} {m : Pu.Md} {k v : Value} {xs : List FV} (h : MdAt w B m k v xs) : MdR w w.heap.size k v m := by
  refine ⟨owns_ints h.hk, ?_, owns_len h.hk, owns_len h.hv⟩
  have hv := h.hv
  rcases hv.2 with ⟨rfl, h0⟩ | ⟨g, cap, cur, rfl, hB, hg, _⟩
  · exact ⟨none, 0, 0, 0, by rw [h0], fun h => absurd h (by omega), fun j hj => absurd hj (by omega)⟩
  · refine ⟨some ⟨g, 0, none⟩, cap, g, 0, rfl, fun _ => ⟨rfl, (Array.getElem?_eq_some_iff.1 hg).1⟩, fun j hj => ?_⟩
    obtain ⟨x, g0, g1, g2, g3, hx⟩ := h.hf.get j hj
    have k0 := hv.cells (g := g) rfl _ _ g0
    have k1 := hv.cells (g := g) rfl _ _ g1
    have k2 := hv.cells (g := g) rfl _ _ g2
    have k3 := hv.cells (g := g) rfl _ _ g3
    rw [addr_add] at k0 k1 k2 k3
    exact ⟨x, k0, by simpa [Nat.add_assoc] using k1, by simpa [Nat.add_assoc] using k2, by simpa [Nat.add_assoc] using k3, hx.reads⟩
end Go.Proofs.YtjamgmbdilkbcaaGreat

/- same modules are the same. -/
namespace Go.Proofs.YtjamgmbdilkbcaaGreat
open Go.RowKit

theorem below_drewN {B : Nat} {a w : World} (h : Below B a w) (n : Nat) : Below B a (w.drewN n) := ⟨h.os, h.tape, h.output, h.size, h.block⟩
theorem IntsR.heap {w w' : World} {B : Nat} {v : Value} {l : List Int} (h : IntsR w B v l) (hh : w'.heap = w.heap) : IntsR w' B v l := by
  obtain ⟨ao, cap, b, off, hv, h1, h2⟩ := h
  refine ⟨ao, cap, b, off, hv, h1, fun j hj => ?_⟩
  rw [World.cell?_of_block (w := w) (by rw [hh])]
  exact h2 j hj
end Go.Proofs.YtjamgmbdilkbcaaGreat

/- The law's own comparing of modules. -/
namespace Go.Proofs.YtjamgmbdilkbcaaGreat
open Go.RowKit

end Go.Proofs.YtjamgmbdilkbcaaGreat

/- An append keeps what the slice held; what the caller holds. -/
namespace Go.Proofs.YtjamgmbdilkbcaaGreat
open Go.RowKit

section
variable {P : Program} {w w' : World}

theorem append_keeps {base : Nat} {t ty e : TypeId} {i : TypeInfo} {z : Value} {size bytes : Nat} (ht : P.underlying t = some (.slice e)) (hi : P.info? e = some i) (hz : i.zero = some z)
    (hsize : i.size = size) (hby : i.bytes = bytes)
    {v : Value} {n : Nat} {xs : List Value} (hown : w.ownsRow base e size v n xs)
    {a : Addr} {m c : Nat} {news : List Value} (hl : news.length = m * size) (hnews : ∀ j u, news[j]? = some u -> w.cell? (a.add j) = some u) (h1 : ∀ u ∈ news, u.oneCell' = true)
    (h63 : n + m <= maxLen) (hbytes : (n + m) * bytes <= 140737488355328) (hm : 0 < m)
    {v' : Value} (hr : (Builtin.append_ #[t, t] ty #[v, .slice (some a) m c]).run P w = .ok v' w') : w'.ownsRow base e size v n xs /\ (v'.ownBlock = v.ownBlock \/ v'.ownBlock = some w.heap.size) := by
  subst hsize
  subst hby
  have h0 := hown
  rcases hown.2 with ⟨rfl, rfl⟩ | ⟨g, cap, cur, rfl, hbg, hg, hnc, hcm, hcs, htake⟩
  · have hx : xs = [] := List.eq_nil_of_length_eq_zero (by simpa using hown.1)
    subst hx
    rw [run_append_nil (P := P) w t ty e i z ht hi hz a m c news hl hnews hm (by simp only [maxLen] at h63; omega) (by have hb := hbytes; simp only [Nat.zero_add] at hb; omega)] at hr
    simp only [Result.ok.injEq] at hr
    obtain ⟨rfl, _⟩ := hr
    exact ⟨World.ownsRow_nil w' base e i.size, .inr rfl⟩
  · have hsm : n + m <= 9223372036854775807 := by simp only [maxLen] at h63; omega
    by_cases hroom : n + m <= cap
    · have hfit : n * i.size + news.length <= cur.size := by rw [hl, hcs, <- Nat.add_mul]; exact Nat.mul_le_mul_right _ hroom
      rw [run_append_room (P := P) w t ty e i ht hi g n cap cur hg a m c news hl hnews h1 hroom hfit] at hr
      simp only [Result.ok.injEq] at hr
      obtain ⟨rfl, rfl⟩ := hr
      refine ⟨⟨hown.1, .inr ⟨g, cap, _, rfl, hbg, setRow_heap w g cur _ e _ hg, hnc, hcm, ?_, ?_⟩⟩, .inl rfl⟩
      · simp only [List.size_toArray, List.length_append, List.length_take, List.length_drop, Array.length_toList]
        omega
      · have hlx : (List.take (n * i.size) cur.toList).length = n * i.size := by rw [htake]; exact hown.1
        simp only [List.append_assoc]
        rw [List.take_append_of_le_length (by omega), List.take_of_length_le (by omega)]
        exact htake
    · rw [run_append_grow (P := P) w t ty e i z ht hi hz ⟨g, 0, none⟩ n cap xs hown.1 (hown.cells (g := g) rfl) a m c news hl hnews (by omega) (by omega) (growslice_fits (by omega) hbytes)] at hr
      simp only [Result.ok.injEq] at hr
      obtain ⟨rfl, rfl⟩ := hr
      exact ⟨h0.kept (w' := w.drew.alloc _) (row := none) ⟨rfl, rfl, rfl, by simp, fun k hk _ => Below.heap_alloc w.drew _ k hk⟩ (.inr (by simp [Value.ownBlock])), .inr rfl⟩
theorem wpList_append_keep {ops : Array Oper} {rest : List Oper} {o : Oper} {a : Act} {Q : Exit -> Act -> World -> Prop} (hgd : o.guard = none) (s x : Operand) (t : TypeId)
    (ho : o.op = .call { callee := .builtin .append, args := #[s, x], argTypes := #[t, t] })
    (base : Nat) (e : TypeId) (i : TypeInfo) (z : Value) (size bytes : Nat) (ht : P.underlying t = some (.slice e)) (hi : P.info? e = some i) (hz : i.zero = some z)
    (hsize : i.size = size) (hby : i.bytes = bytes) (hzs : z.cells.size = size) (hsz : 0 < size)
    (v : Value) (n : Nat) (xs : List Value) (hs : a.eval s = v) (hown : w.ownsRow base e size v n xs)
    (ad : Addr) (m c : Nat) (news : List Value) (hx : a.eval x = .slice (some ad) m c) (hl : news.length = m * size) (hnews : ∀ j u, news[j]? = some u -> w.cell? (ad.add j) = some u) (h1 : ∀ u ∈ news, u.oneCell' = true)
    (h63 : n + m <= maxLen) (hbytes : (n + m) * bytes <= 140737488355328) (hbase : base <= w.heap.size) (hm : 0 < m)
    (h : ∀ v' w', w'.ownsRow base e size v' (n + m) (xs ++ news) -> w.grownBy w' v.ownBlock -> w'.ownsRow base e size v n xs -> (v'.ownBlock = v.ownBlock \/ v'.ownBlock = some w.heap.size) -> wpList P ops Q rest (a.put o.dst v') w') : wpList P ops Q (o :: rest) a w :=
  wpList_plain hgd fun _ hK => by
    obtain ⟨v', w', hr, h2, h3, _⟩ := run_append_own (P := P) w base t o.type e i z size bytes ht hi hz hsize hby hzs hsz v n xs hown ad m c news hl hnews h1 h63 hbytes hbase
    have h5 := append_keeps ht hi hz hsize hby hown hl hnews h1 h63 hbytes hm hr
    unfold Oper.wp execOp
    simp only [ho, resolve, invoke, builtin, Sem.run_bind, Sem.run_pure, Result.andThen_ok, List.map_toArray, List.map_cons, List.map_nil, hs, hx, hr]
    exact hK _ _ (h v' w' h2 h3 h5.1 h5.2)
end

theorem owns_front {w : World} {B e size n n' cap cap' g : Nat} {xs ys : List Value} (h : w.ownsRow B e size (.slice (some ⟨g, 0, none⟩) n' cap') n' (xs ++ ys)) (hx : xs.length = n * size) (hn : n <= n') (hc : cap = cap') :
    w.ownsRow B e size (.slice (some ⟨g, 0, none⟩) n cap) n xs := by
  subst hc
  rcases h.2 with ⟨h', _⟩ | ⟨g', cap', cur, h', hb, hg, hnc, hcm, hcs, htake⟩
  · simp at h'
  · simp only [Value.slice.injEq, Option.some.injEq, Addr.mk.injEq, and_true, true_and] at h'
    obtain ⟨rfl, rfl⟩ := h'
    refine ⟨hx, .inr ⟨g, cap, cur, rfl, hb, hg, by omega, hcm, hcs, ?_⟩⟩
    have h2 : n * size <= n' * size := Nat.mul_le_mul_right _ hn
    have h3 : List.take (n * size) (List.take (n' * size) cur.toList) = List.take (n * size) (xs ++ ys) := by rw [htake]
    have h4 : List.take (n * size) (List.take (n' * size) cur.toList) = List.take (n * size) cur.toList := by rw [List.take_take, Nat.min_eq_left h2]
    have h5 : List.take (n * size) (xs ++ ys) = xs := by rw [List.take_append_of_le_length (Nat.le_of_eq hx.symm), List.take_of_length_le (Nat.le_of_eq hx)]
    rw [h4, h5] at h3
    exact h3
def ints (n : Nat) (x : Int) : List Value := List.replicate n (.int .i64 x)
def GoodI (w : World) (S : Nat -> Prop) (v : Value) (x : Int) : Prop :=
  ∃ n, w.ownsRow 0 3 1 v n (ints n x) /\ n <= 2000000 /\ ∀ k, v.ownBlock = some k -> S k
def insts (n : Nat) (x y : Int) : List Value := cc (List.replicate n (x, y))
def GoodC (w : World) (S : Nat -> Prop) (v : Value) (x : Int) : Prop :=
  ∃ n, w.ownsRow 0 56 2 v n (insts n x (wrap64 (-x))) /\ n <= 2000000 /\ ∀ k, v.ownBlock = some k -> S k
def MarkedF (w : World) (S : Nat -> Prop) (f : FV) (x : Int) : Prop :=
  ∃ q c, f = ⟨.slice (some ⟨q, 0, none⟩) 1 c, .slice none 0 0, .slice none 0 0, .slice none 0 0⟩ /\ S q /\ w.heap[q]? = some (.cells #[.int .i64 x] 3 (0, 0))
def GoodF (w : World) (S : Nat -> Prop) (v : Value) (x : Int) : Prop :=
  ∃ fs : List FV, w.ownsRow 0 62 4 v fs.length (fc fs) /\ fs.length <= 2000000 /\ (∀ f ∈ fs, MarkedF w S f x) /\ ∀ k, v.ownBlock = some k -> S k
def hc (l : List (Value × Int)) : List Value := l.flatMap fun x => [x.1, .int .i64 x.2]
theorem hc_snoc (l : List (Value × Int)) (x : Value × Int) : hc (l ++ [x]) = hc l ++ [x.1, .int .i64 x.2] := by simp [hc]
structure HR (w : World) (B ph : Nat) (N : Int) (vi vc vf : Value) (ei ec ef : List (Value × Int)) : Prop where
  h : F4 w ph 32 (.int .i64 N) vi vc vf
  oi : w.ownsRow B 50 2 vi ei.length (hc ei)
  oc : w.ownsRow B 54 2 vc ec.length (hc ec)
  of : w.ownsRow B 59 2 vf ef.length (hc ef)
  hB : B <= ph
structure HG (w : World) (S : Nat -> Prop) (ei ec ef : List (Value × Int)) : Prop where
  gi : ∀ x ∈ ei, GoodI w S x.1 x.2
  gc : ∀ x ∈ ec, GoodC w S x.1 x.2
  gf : ∀ x ∈ ef, GoodF w S x.1 x.2
def Hd (w : World) (B ph : Nat) (S : Nat -> Prop) (K : Nat) : Prop :=
  ∃ N vi vc vf ei ec ef, HR w B ph N vi vc vf ei ec ef /\ HG w S ei ec ef /\ ei.length <= K /\ ec.length <= K /\ ef.length <= K
def Plain (w : World) (k : Nat) : Prop := ∃ c t fr, w.heap[k]? = some (.cells c t fr) /\ (t = 3 \/ t = 56 \/ t = 62)
theorem owns_block {w w' : World} {B e size n : Nat} {v : Value} {xs : List Value} (h : w.ownsRow B e size v n xs) (hb : ∀ k, v.ownBlock = some k -> w'.heap[k]? = w.heap[k]?) : w'.ownsRow B e size v n xs := by
  refine ⟨h.1, ?_⟩
  rcases h.2 with hn | ⟨g, cap, cur, rfl, hB, hg, rest⟩
  · exact .inl hn
  · exact .inr ⟨g, cap, cur, rfl, hB, by rw [hb g rfl]; exact hg, rest⟩
theorem owns_lt {w : World} {B e size n : Nat} {v : Value} {xs : List Value} (h : w.ownsRow B e size v n xs) {k : Nat} (hk : v.ownBlock = some k) : k < w.heap.size := (h.lt k hk).2
theorem owns_ty {w : World} {B e size n : Nat} {v : Value} {xs : List Value} (h : w.ownsRow B e size v n xs) {k : Nat} (hk : v.ownBlock = some k) : ∃ c, w.heap[k]? = some (.cells c e (0, 0)) := by
  rcases h.2 with ⟨rfl, _⟩ | ⟨g, cap, cur, rfl, hB, hg, rest⟩
  · simp [Value.ownBlock] at hk
  · simp only [Value.ownBlock, Option.some.injEq] at hk
    subst hk
    exact ⟨cur, hg⟩
theorem owns_plain {w : World} {B e size n : Nat} {v : Value} {xs : List Value} (h : w.ownsRow B e size v n xs) {k : Nat} (hk : v.ownBlock = some k) (he : e = 3 \/ e = 56 \/ e = 62) : Plain w k := by
  obtain ⟨c, hc⟩ := owns_ty h hk
  exact ⟨c, e, _, hc, he⟩
structure Fr (w w' : World) (X : Nat -> Prop) : Prop where
  os : w'.os = w.os
  tape : w'.tape = w.tape
  output : w'.output = w.output
  size : w.heap.size <= w'.heap.size
  block : ∀ k, k < w.heap.size -> ¬ X k -> w'.heap[k]? = w.heap[k]?
theorem Fr.refl (w : World) (X : Nat -> Prop) : Fr w w X := ⟨rfl, rfl, rfl, Nat.le_refl _, fun _ _ _ => rfl⟩
theorem Fr.grown {w w1 w2 : World} {X : Nat -> Prop} {r : Option Nat} (h : Fr w w1 X) (hg : w1.grownBy w2 r) (hr : ∀ k, r = some k -> X k \/ w.heap.size <= k) : Fr w w2 X :=
  ⟨hg.os.trans h.os, hg.tape.trans h.tape, hg.output.trans h.output, Nat.le_trans h.size hg.size, fun k hk hx => by
    rw [hg.block k (Nat.lt_of_lt_of_le hk h.size) (fun e => by rcases hr k e.symm with h' | h'; exact hx h'; omega)]
    exact h.block k hk hx⟩
theorem Fr.trans {w w1 w2 : World} {X Y : Nat -> Prop} (h : Fr w w1 X) (k : Fr w1 w2 Y) (hY : ∀ j, Y j -> X j \/ w.heap.size <= j) : Fr w w2 X :=
  ⟨k.os.trans h.os, k.tape.trans h.tape, k.output.trans h.output, Nat.le_trans h.size k.size, fun j hj hx => by
    rw [k.block j (Nat.lt_of_lt_of_le hj h.size) (fun e => by rcases hY j e with h' | h'; exact hx h'; omega)]
    exact h.block j hj hx⟩
theorem Fr.below {w w' : World} {X : Nat -> Prop} {B : Nat} (h : Fr w w' X) (hX : ∀ k, X k -> B <= k) (hB : B <= w.heap.size) : Below B w w' :=
  ⟨h.os, h.tape, h.output, h.size, fun k hk => h.block k (by omega) (fun e => by have := hX k e; omega)⟩
end Go.Proofs.YtjamgmbdilkbcaaGreat

/- Held.ints. -/
namespace Go.Proofs.YtjamgmbdilkbcaaGreat
open Go.RowKit

theorem ne_ph {w : World} {B e size n ph : Nat} {t : TypeId} {v x0 x1 x2 x3 : Value} {xs : List Value} (h : w.ownsRow B e size v n xs) (hp : F4 w ph t x0 x1 x2 x3) (he : e ≠ t) : v.ownBlock ≠ some ph := by
  intro hv
  obtain ⟨c, hc⟩ := owns_ty h hv
  unfold F4 at hp
  rw [hp] at hc
  simp at hc
  exact he hc.2.symm
def S1 (w : World) (S : Nat -> Prop) (v : Value) (k : Nat) : Prop := (S k /\ k < w.heap.size) \/ v.ownBlock = some k \/ w.heap.size <= k
theorem loc {a b : Option Nat} {m m' : Nat} (h : a = b \/ a = some m) (hm : m' <= m) : ∀ j, a = some j -> b = some j \/ m' <= j := by
  intro j hj
  rcases h with h | h
  · exact .inl (h.symm.trans hj)
  · rw [h] at hj
    simp only [Option.some.injEq] at hj
    subst hj
    exact .inr hm
section
variable {w wr w3 : World} {B ph : Nat} {S0 X P1 : Nat -> Prop} {N n : Int} {n0 k : Nat} {v vi0 gv vi vc vf vi' gv' : Value} {ei en ec ef : List (Value × Int)}

end

theorem owns_zero {w : World} {B e size n : Nat} {v : Value} {xs : List Value} (h : w.ownsRow B e size v n xs) : w.ownsRow 0 e size v n xs := owns_base h (Nat.zero_le _)
end Go.Proofs.YtjamgmbdilkbcaaGreat

/- Held.code. -/
namespace Go.Proofs.YtjamgmbdilkbcaaGreat
open Go.RowKit

section
variable {w wr w3 : World} {B ph : Nat} {S0 X P1 : Nat -> Prop} {N n : Int} {n0 k : Nat} {v vc0 gv vi vc vf vc' gv' : Value} {ei en ec ef : List (Value × Int)}

end

end Go.Proofs.YtjamgmbdilkbcaaGreat

/- Held.funcs. -/
namespace Go.Proofs.YtjamgmbdilkbcaaGreat
open Go.RowKit

section
variable {w wr w3 : World} {B ph : Nat} {S0 X P1 : Nat -> Prop} {N n : Int} {n0 k : Nat} {v vf0 gv vi vc vf vf' gv' : Value} {ei ec ef en : List (Value × Int)} {ms : List FV}

end

end Go.Proofs.YtjamgmbdilkbcaaGreat

/- Held.module. -/
namespace Go.Proofs.YtjamgmbdilkbcaaGreat
open Go.RowKit

structure Row where
  e : Nat
  size : Nat
  n : Nat
  v : Value
  ys : List Value
def rowsOf (f : Pu.Fn) (x : FV) : List Row :=
  [⟨3, 1, f.params.length, x.p, f.params.map (Value.int .i64)⟩, ⟨3, 1, f.results.length, x.r, f.results.map (Value.int .i64)⟩, ⟨3, 1, f.locals.length, x.l, f.locals.map (Value.int .i64)⟩, ⟨56, 2, f.code.length, x.c, cc f.code⟩]
def rows : List Pu.Fn -> List FV -> List Row
  | f :: fs, x :: xs => rowsOf f x ++ rows fs xs
  | _, _ => []
def Small (m : Pu.Md) : Prop := m.kinds.length <= 1500000 /\ m.funcs.length <= 1500000 /\ ∀ f ∈ m.funcs, f.params.length <= 1500000 /\ f.results.length <= 1500000 /\ f.locals.length <= 1500000 /\ f.code.length <= 1500000
end Go.Proofs.YtjamgmbdilkbcaaGreat

/- all, marked, num. -/
namespace Go.Proofs.YtjamgmbdilkbcaaGreat
open Go.RowKit

theorem num_any (x : Int) (w : World) :
    Calls Tryz.prog 21 #[.int .i64 x] w fun e w' => e = .returned (.int .i64 x) /\ w' = w := by
  go_enter Tryz.func21, Tryz.ntmps21
  go_wp2
  go_ret
  exact ⟨rfl, rfl⟩
end Go.Proofs.YtjamgmbdilkbcaaGreat

/- Held.dry. -/
namespace Go.Proofs.YtjamgmbdilkbcaaGreat
open Go.RowKit

end Go.Proofs.YtjamgmbdilkbcaaGreat
