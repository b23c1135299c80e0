import Derived.Test.YtjamgmbdilkbcaaGreatLotLedgers38
import Derived.Test.YtjamgmbdilkbcaaGreatLotLedgers30
/- The document's run in memory; wrong. -/
namespace Go.Proofs.YtjamgmbdilkbcaaGreat
open Go.RowKit

namespace Dw
open Dr (Gg Rm)

structure Cx where
  ck : Value
  cf : Value
  who : Int
  gas : Int
  P : Nat -> Prop
def vc (l : List (Int × Int)) : List Value := l.flatMap fun v => [.int .i64 v.1, .int .i64 v.2]
def pc (l : List (Bool × Int × Int)) : List Value := l.flatMap fun v => [.bool v.1, .int .i64 v.2.1, .int .i64 v.2.2]
def hc (l : List Dr.Hd) : List Value := l.flatMap fun v => [.int .i64 v.who, .int .i64 v.kind, .int .i64 v.n]
def kc (l : List Int) : List Value := l.map (Value.int .i64)
def gcells (C : Cx) (hv : Value) (g : Gg) : Array Value := #[C.ck, C.cf, hv, .int .i64 C.who, .int .i64 C.gas, .int .i64 g.used, .int .i64 g.err, .int .i64 g.code, .int .i64 g.depth]
structure Sx (w : World) (B gq rq : Nat) (C : Cx) (g : Gg) (r : Rm) (hv sv pv kv : Value) : Prop where
  gb : w.heap[gq]? = some (.cells (gcells C hv g) 140 (0, 0))
  rb : w.heap[rq]? = some (.cells #[sv, pv, kv] 190 (0, 0))
  ho : w.ownsRow 0 145 3 hv g.holds.length (hc g.holds)
  so : w.ownsRow B 192 2 sv r.stk.length (vc r.stk)
  po : w.ownsRow B 194 3 pv r.spots.length (pc r.spots)
  ko : w.ownsRow B 3 1 kv r.kinds.length (kc r.kinds)
  lt : gq < B
  le : B <= rq
  nd : (gq :: rq :: bl [hv, sv, pv, kv]).Nodup
  pr : ∀ k, C.P k -> k < w.heap.size /\ k ∉ gq :: rq :: bl [hv, sv, pv, kv]
def SO (w : World) (B gq rq : Nat) (C : Cx) (g : Gg) (r : Rm) : Prop := ∃ hv sv pv kv, Sx w B gq rq C g r hv sv pv kv
structure Lo (B gq : Nat) (P : Nat -> Prop) (w w' : World) : Prop where
  os : w'.os = w.os
  tape : w'.tape = w.tape
  output : w'.output = w.output
  size : w.heap.size <= w'.heap.size
  block : ∀ k, ((k < B /\ k ≠ gq) \/ P k) -> w'.heap[k]? = w.heap[k]?
theorem Lo.refl (B gq : Nat) (P : Nat -> Prop) (w : World) : Lo B gq P w w := ⟨rfl, rfl, rfl, Nat.le_refl _, fun _ _ => rfl⟩
theorem Lo.trans {B gq : Nat} {P : Nat -> Prop} {a b c : World} (h : Lo B gq P a b) (k : Lo B gq P b c) : Lo B gq P a c := ⟨k.os.trans h.os, k.tape.trans h.tape, k.output.trans h.output, Nat.le_trans h.size k.size, fun j h1 => (k.block j h1).trans (h.block j h1)⟩
theorem Lo.set {B gq : Nat} {P : Nat -> Prop} {w : World} {p : Addr} (hp : p.block = gq \/ B <= p.block) (hP : ¬ P p.block) (v : Value) : Lo B gq P w (w.setCell p v) :=
  ⟨rfl, rfl, rfl, by simp, fun k h1 => Below.heap_setCell _ _ _ _ (by
    rcases h1 with h1 | h1
    · omega
    · intro e; rw [e] at h1; exact hP h1)⟩
theorem Lo.low {B gq : Nat} {P : Nat -> Prop} {w w' : World} (h : Lo B gq P w w') (hg : gq <= B) : Below gq w w' := ⟨h.os, h.tape, h.output, h.size, fun k hk => h.block k (.inl ⟨by omega, by omega⟩)⟩
theorem Lo.grown {B gq : Nat} {P : Nat -> Prop} {w w' : World} {r : Option Nat} (h : w.grownBy w' r) (hB : B <= w.heap.size) (hr : ∀ k, r = some k -> (k = gq \/ B <= k) /\ ¬ P k) (hl : ∀ k, P k -> k < w.heap.size) : Lo B gq P w w' :=
  ⟨h.os, h.tape, h.output, h.size, fun k h1 => by
    rcases h1 with ⟨h1, h2⟩ | h1
    · exact h.block k (by omega) (fun e => by have := (hr k e.symm).1; omega)
    · exact h.block k (hl k h1) (fun e => (hr k e.symm).2 h1)⟩
theorem Lo.below {B gq : Nat} {P : Nat -> Prop} {w w' : World} (h : Below w.heap.size w w') (hB : B <= w.heap.size) (hl : ∀ k, P k -> k < w.heap.size) : Lo B gq P w w' := ⟨h.os, h.tape, h.output, h.size, fun k h1 => h.block k (by
  rcases h1 with ⟨h1, _⟩ | h1
  · omega
  · exact hl k h1)⟩
section
variable {w w' : World} {B gq rq : Nat} {C : Cx} {g g' : Gg} {r r' : Rm} {hv sv pv kv : Value}
theorem Sx.gl (h : Sx w B gq rq C g r hv sv pv kv) : gq < w.heap.size := (Array.getElem?_eq_some_iff.1 h.gb).1
theorem Sx.rl (h : Sx w B gq rq C g r hv sv pv kv) : rq < w.heap.size := (Array.getElem?_eq_some_iff.1 h.rb).1
theorem Sx.gc (h : Sx w B gq rq C g r hv sv pv kv) (i : Nat) : w.cell? ⟨gq, i, none⟩ = (gcells C hv g)[i]? := by simp [World.cell?, h.gb]
theorem Sx.gz (h : Sx w B gq rq C g r hv sv pv kv) (i : Nat) : w.frozen? ⟨gq, i, none⟩ = false := by simp [World.frozen?, h.gb]
theorem Sx.rz (h : Sx w B gq rq C g r hv sv pv kv) (i : Nat) : w.frozen? ⟨rq, i, none⟩ = false := by simp [World.frozen?, h.rb]
theorem Sx.c0 (h : Sx w B gq rq C g r hv sv pv kv) : w.cell? ⟨gq, 0, none⟩ = some C.ck := by rw [h.gc]; rfl
theorem Sx.c1 (h : Sx w B gq rq C g r hv sv pv kv) : w.cell? ⟨gq, 1, none⟩ = some C.cf := by rw [h.gc]; rfl
theorem Sx.c2 (h : Sx w B gq rq C g r hv sv pv kv) : w.cell? ⟨gq, 2, none⟩ = some hv := by rw [h.gc]; rfl
theorem Sx.c3 (h : Sx w B gq rq C g r hv sv pv kv) : w.cell? ⟨gq, 3, none⟩ = some (.int .i64 C.who) := by rw [h.gc]; rfl
theorem Sx.c4 (h : Sx w B gq rq C g r hv sv pv kv) : w.cell? ⟨gq, 4, none⟩ = some (.int .i64 C.gas) := by rw [h.gc]; rfl
theorem Sx.c5 (h : Sx w B gq rq C g r hv sv pv kv) : w.cell? ⟨gq, 5, none⟩ = some (.int .i64 g.used) := by rw [h.gc]; rfl
theorem Sx.c6 (h : Sx w B gq rq C g r hv sv pv kv) : w.cell? ⟨gq, 6, none⟩ = some (.int .i64 g.err) := by rw [h.gc]; rfl
theorem Sx.c7 (h : Sx w B gq rq C g r hv sv pv kv) : w.cell? ⟨gq, 7, none⟩ = some (.int .i64 g.code) := by rw [h.gc]; rfl
theorem Sx.c8 (h : Sx w B gq rq C g r hv sv pv kv) : w.cell? ⟨gq, 8, none⟩ = some (.int .i64 g.depth) := by rw [h.gc]; rfl
theorem Sx.r0 (h : Sx w B gq rq C g r hv sv pv kv) : w.cell? ⟨rq, 0, none⟩ = some sv := by simp [World.cell?, h.rb]
theorem Sx.r1 (h : Sx w B gq rq C g r hv sv pv kv) : w.cell? ⟨rq, 1, none⟩ = some pv := by simp [World.cell?, h.rb]
theorem Sx.r2 (h : Sx w B gq rq C g r hv sv pv kv) : w.cell? ⟨rq, 2, none⟩ = some kv := by simp [World.cell?, h.rb]
theorem Sx.apart (h : Sx w B gq rq C g r hv sv pv kv) : gq ≠ rq /\ (∀ k, k ∈ bl [hv, sv, pv, kv] -> k ≠ gq /\ k ≠ rq) := by
  have h1 := List.nodup_cons.1 h.nd
  have h2 := List.nodup_cons.1 h1.2
  refine ⟨fun e => h1.1 (by rw [e]; simp), fun k hk => ⟨fun e => h1.1 ?_, fun e => h2.1 ?_⟩⟩
  · rw [<- e]; exact List.mem_cons_of_mem _ hk
  · rw [<- e]; exact hk
theorem mem_bl {v : Value} {l : List Value} {k : Nat} (hv : v ∈ l) (hk : v.ownBlock = some k) : k ∈ bl l := by
  unfold bl
  exact List.mem_flatMap.2 ⟨v, hv, by rw [hk]; simp⟩
theorem Sx.setG (h : Sx w B gq rq C g r hv sv pv kv) (hh : g'.holds = g.holds) (hw : w'.heap[gq]? = some (.cells (gcells C hv g') 140 (0, 0))) (hk : ∀ k, k ≠ gq -> w'.heap[k]? = w.heap[k]?) (hz : w.heap.size <= w'.heap.size) : Sx w' B gq rq C g' r hv sv pv kv := by
  obtain ⟨a1, a2⟩ := h.apart
  have keep : ∀ {b e size n : Nat} {v : Value} {xs : List Value}, v ∈ [hv, sv, pv, kv] -> w.ownsRow b e size v n xs -> w'.ownsRow b e size v n xs := fun hm ho => owns_block ho fun k hk2 => hk k (a2 k (mem_bl hm hk2)).1
  exact ⟨hw, (hk rq (fun e => a1 e.symm)).trans h.rb, by rw [hh]; exact keep (by simp) h.ho, keep (by simp) h.so, keep (by simp) h.po, keep (by simp) h.ko, h.lt, h.le, h.nd, fun k hk => ⟨Nat.lt_of_lt_of_le (h.pr k hk).1 hz, (h.pr k hk).2⟩⟩
theorem Sx.setErr (h : Sx w B gq rq C g r hv sv pv kv) (e : Int) : Sx (w.setCell ⟨gq, 6, none⟩ (.int .i64 e)) B gq rq C { g with err := e } r hv sv pv kv :=
  h.setG rfl (by have := h.gb; simp [World.setCell, Array.getElem?_modify, this, gcells]) (fun k hk => Below.heap_setCell _ _ _ _ hk) (by simp)
theorem Sx.setUsed (h : Sx w B gq rq C g r hv sv pv kv) (e : Int) : Sx (w.setCell ⟨gq, 5, none⟩ (.int .i64 e)) B gq rq C { g with used := e } r hv sv pv kv :=
  h.setG rfl (by have := h.gb; simp [World.setCell, Array.getElem?_modify, this, gcells]) (fun k hk => Below.heap_setCell _ _ _ _ hk) (by simp)
theorem Sx.setCode (h : Sx w B gq rq C g r hv sv pv kv) (e : Int) : Sx (w.setCell ⟨gq, 7, none⟩ (.int .i64 e)) B gq rq C { g with code := e } r hv sv pv kv :=
  h.setG rfl (by have := h.gb; simp [World.setCell, Array.getElem?_modify, this, gcells]) (fun k hk => Below.heap_setCell _ _ _ _ hk) (by simp)
theorem Sx.setDepth (h : Sx w B gq rq C g r hv sv pv kv) (e : Int) : Sx (w.setCell ⟨gq, 8, none⟩ (.int .i64 e)) B gq rq C { g with depth := e } r hv sv pv kv :=
  h.setG rfl (by have := h.gb; simp [World.setCell, Array.getElem?_modify, this, gcells]) (fun k hk => Below.heap_setCell _ _ _ _ hk) (by simp)
theorem Sx.below (h : Sx w B gq rq C g r hv sv pv kv) (hb : Below w.heap.size w w') : Sx w' B gq rq C g r hv sv pv kv :=
  ⟨(hb.block _ h.gl).trans h.gb, (hb.block _ h.rl).trans h.rb, owns_block h.ho fun k hk => hb.block k (h.ho.lt k hk).2, owns_block h.so fun k hk => hb.block k (h.so.lt k hk).2, owns_block h.po fun k hk => hb.block k (h.po.lt k hk).2, owns_block h.ko fun k hk => hb.block k (h.ko.lt k hk).2, h.lt, h.le, h.nd, fun k hk => ⟨Nat.lt_of_lt_of_le (h.pr k hk).1 hb.size, (h.pr k hk).2⟩⟩
theorem Sx.setStk (h : Sx w B gq rq C g r hv sv pv kv) {sv' : Value} {l : List (Int × Int)} (ho : w.ownsRow B 192 2 sv' l.length (vc l)) (hb : sv'.ownBlock = sv.ownBlock) : Sx (w.setCell ⟨rq, 0, none⟩ sv') B gq rq C g { r with stk := l } hv sv' pv kv := by
  obtain ⟨a1, a2⟩ := h.apart
  have hk : ∀ k, k ≠ rq -> (w.setCell ⟨rq, 0, none⟩ sv').heap[k]? = w.heap[k]? := fun k hk => Below.heap_setCell _ _ _ _ hk
  have keep : ∀ {b e size n : Nat} {v : Value} {xs : List Value}, v ∈ [hv, sv, pv, kv] -> w.ownsRow b e size v n xs -> (w.setCell ⟨rq, 0, none⟩ sv').ownsRow b e size v n xs := fun hm ho => owns_block ho fun k hk2 => hk k (a2 k (mem_bl hm hk2)).2
  have hnd : bl [hv, sv', pv, kv] = bl [hv, sv, pv, kv] := by simp [bl, hb]
  exact ⟨(hk gq a1).trans h.gb, by have := h.rb; simp [World.setCell, Array.getElem?_modify, this], keep (by simp) h.ho, owns_block ho fun k hk2 => hk k (a2 k (mem_bl (v := sv) (by simp) (by rw [<- hb]; exact hk2))).2, keep (by simp) h.po, keep (by simp) h.ko, h.lt, h.le, by rw [hnd]; exact h.nd, fun k hk => ⟨by simpa using (h.pr k hk).1, by rw [hnd]; exact (h.pr k hk).2⟩⟩
theorem Sx.npg (h : Sx w B gq rq C g r hv sv pv kv) : ¬ C.P gq := fun hp => (h.pr gq hp).2 (by simp)
theorem Sx.npr (h : Sx w B gq rq C g r hv sv pv kv) : ¬ C.P rq := fun hp => (h.pr rq hp).2 (by simp)
theorem Sx.npb (h : Sx w B gq rq C g r hv sv pv kv) {v : Value} (hv' : v ∈ [hv, sv, pv, kv]) {k : Nat} (hk : v.ownBlock = some k) : ¬ C.P k := fun hp => (h.pr k hp).2 (List.mem_cons_of_mem _ (List.mem_cons_of_mem _ (mem_bl hv' hk)))
theorem Sx.bs (h : Sx w B gq rq C g r hv sv pv kv) : B <= w.heap.size := Nat.le_of_lt (Nat.lt_of_le_of_lt h.le h.rl)
theorem Sx.loG (h : Sx w B gq rq C g r hv sv pv kv) (i : Nat) (v : Value) : Lo B gq C.P w (w.setCell ⟨gq, i, none⟩ v) := Lo.set (p := ⟨gq, i, none⟩) (.inl rfl) h.npg v
theorem Sx.loR (h : Sx w B gq rq C g r hv sv pv kv) (i : Nat) (v : Value) : Lo B gq C.P w (w.setCell ⟨rq, i, none⟩ v) := Lo.set (p := ⟨rq, i, none⟩) (.inr h.le) h.npr v
theorem Sx.loB (h : Sx w B gq rq C g r hv sv pv kv) (hb : Below w.heap.size w w') : Lo B gq C.P w w' := Lo.below hb h.bs fun k hk => (h.pr k hk).1
theorem Sx.loW (h : Sx w B gq rq C g r hv sv pv kv) (hg : w.grownBy w' (some gq)) : Lo B gq C.P w w' := Lo.grown hg h.bs (fun k hk => by cases hk; exact ⟨.inl rfl, h.npg⟩) fun k hk => (h.pr k hk).1
end

def OpOut (w w' : World) (B gq rq : Nat) (C : Cx) (p : Gg × Rm) : Prop := SO w' B gq rq C p.1 p.2 /\ Lo B gq C.P w w'
set_option maxRecDepth 100000 in
set_option maxHeartbeats 1000000 in
theorem wrong_any (w : World) (B gq rq : Nat) (C : Cx) (g : Gg) (r : Rm) (hv sv pv kv : Value) (b : Bool) (x : Int) (h : Sx w B gq rq C g r hv sv pv kv) :
    Calls Tryz.prog 108 #[.pointer (some ⟨gq, 0, none⟩), .bool b, .int .i64 x] w fun e w' => e = .returned (.tuple #[]) /\ Sx w' B gq rq C (Dr.wrong (b = true) x g) r hv sv pv kv /\ w.grownBy w' (some gq) := by
  have c6 := h.c6
  have z6 := h.gz 6
  cases b with
  | false =>
    have e : Dr.wrong (false = true) x g = g := by unfold Dr.wrong; simp
    rw [e]
    have FIN := hid (And.intro h (grown_refl w (some gq)))
    clear h e
    go_enter Tryz.func108, Tryz.ntmps108
    go_wp2
    go_end0
    exact ⟨rfl, FIN.out⟩
  | true =>
    by_cases he : g.err = 0
    · have e : Dr.wrong (true = true) x g = { g with err := x } := by unfold Dr.wrong; simp [he]
      rw [e]
      have FIN := hid (And.intro (h.setErr x) (grown_set w gq 6 (.int .i64 x)))
      rw [he] at c6
      clear h e he
      go_enter Tryz.func108, Tryz.ntmps108
      go_wp2
      go_end0
      exact ⟨rfl, FIN.out⟩
    · have e : Dr.wrong (true = true) x g = g := by unfold Dr.wrong; simp [he]
      rw [e]
      have FIN := hid (And.intro h (grown_refl w (some gq)))
      have n1 : (g.err == 0) = false := by simpa using he
      clear h e
      go_enter Tryz.func108, Tryz.ntmps108
      go_wp2
      go_end0
      exact ⟨rfl, FIN.out⟩
end Dw
end Go.Proofs.YtjamgmbdilkbcaaGreat

/- The document's take, put. -/
namespace Go.Proofs.YtjamgmbdilkbcaaGreat
open Go.RowKit

namespace Dw
open Dr (Gg Rm)

theorem Tryz.info192 : (Tryz.prog.info? 192).map (fun i => (i.zero, i.size, i.bytes)) = some (some (.agg #[.int .i64 0, .int .i64 0]), 2, 16) := by kernel_rfl
theorem vc_snoc (l : List (Int × Int)) (a : Int × Int) : vc (l ++ [a]) = vc l ++ [.int .i64 a.1, .int .i64 a.2] := by simp [vc]
theorem vc_len : ∀ l : List (Int × Int), (vc l).length = l.length * 2
  | [] => rfl
  | a :: l => by have := vc_len l; unfold vc at this ⊢; simp only [List.flatMap_cons, List.length_append, List.length_cons, List.length_nil, this]; omega
theorem top_cells {w : World} {B n cap gs : Nat} {l : List (Int × Int)} {a : Int × Int} (ho : w.ownsRow B 192 2 (.slice (some ⟨gs, 0, none⟩) n cap) n (vc (l ++ [a]))) (hn : n = l.length + 1) :
    w.cell? ⟨gs, l.length * 2, none⟩ = some (.int .i64 a.1) /\ w.cell? ⟨gs, l.length * 2 + 1, none⟩ = some (.int .i64 a.2) /\ n <= cap /\ w.ownsRow B 192 2 (.slice (some ⟨gs, 0, none⟩) l.length cap) l.length (vc l) := by
  have h1 := ho.cells (g := gs) rfl (l.length * 2) (.int .i64 a.1) (by rw [vc_snoc, List.getElem?_append_right (by rw [vc_len]; omega), vc_len]; simp)
  have h2 := ho.cells (g := gs) rfl (l.length * 2 + 1) (.int .i64 a.2) (by rw [vc_snoc, List.getElem?_append_right (by rw [vc_len]; omega), vc_len]; simp)
  rw [addr_add] at h1 h2
  refine ⟨by simpa using h1, by simpa using h2, ?_, ?_⟩
  · rcases ho.2 with ⟨hh, _⟩ | ⟨g', cap', cur, hh, _, _, hnc, _⟩
    · simp at hh
    · simp only [Value.slice.injEq, true_and] at hh
      omega
  · have h := ho
    rw [vc_snoc] at h
    exact owns_front h (vc_len l) (by omega) rfl
def TakeOut (w w' : World) (B gq rq : Nat) (C : Cx) (p : Int × Gg × Rm) (e : Ending) : Prop := e = .returned (.int .i64 p.1) /\ OpOut w w' B gq rq C p.2
set_option maxRecDepth 100000 in
set_option maxHeartbeats 1000000 in
theorem dtake_any (w : World) (B gq rq : Nat) (C : Cx) (g : Gg) (r : Rm) (kind : Int) (h : SO w B gq rq C g r) (hl : r.stk.length <= 1000) :
    Calls Tryz.prog 85 #[.pointer (some ⟨gq, 0, none⟩), .pointer (some ⟨rq, 0, none⟩), .int .i64 kind] w fun e w' => TakeOut w w' B gq rq C (Dr.take kind g r) e := by
  obtain ⟨hv, sv, pv, kv, h⟩ := h
  obtain ⟨av, cap, hsv⟩ := owns_shape h.so
  subst hsv
  have c6 := h.c6
  have z6 := h.gz 6
  have r0 := h.r0
  have zr := h.rz 0
  by_cases he : g.err = 0
  · have HBAD : Hid (TakeOut w (w.setCell ⟨gq, 6, none⟩ (.int .i64 99)) B gq rq C (0, { g with err := 99 }, r) (.returned (.int .i64 0))) := hid ⟨rfl, ⟨_, _, _, _, h.setErr 99⟩, h.loG 6 _⟩
    rw [he] at c6
    by_cases hs : r.stk = []
    · have e : Dr.take kind g r = (0, { g with err := 99 }, r) := by unfold Dr.take Dr.wrong; simp [hs, he]
      rw [e]
      have hl0 : r.stk.length = 0 := by rw [hs]; rfl
      rw [hl0] at r0
      clear h hs hl0 hl e he
      go_enter Tryz.func85, Tryz.ntmps85
      go_wp2
      go_ret
      exact HBAD.out
    · obtain ⟨l, a, hla⟩ : ∃ l a, r.stk = l ++ [a] := ⟨r.stk.dropLast, r.stk.getLast hs, (List.dropLast_concat_getLast hs).symm⟩
      have hlen : r.stk.length = l.length + 1 := by rw [hla]; simp
      have hso := h.so
      have hav : ∃ gs, av = some ⟨gs, 0, none⟩ := by
        rcases hso.2 with ⟨_, hn⟩ | ⟨g', cap', cur, hh, _⟩
        · omega
        · simp only [Value.slice.injEq, true_and] at hh
          exact ⟨g', hh.1⟩
      obtain ⟨gs, rfl⟩ := hav
      rw [hla] at hso
      rw [show (l ++ [a]).length = l.length + 1 from by simp] at hso
      obtain ⟨k1, k2, k3, k4⟩ := top_cells hso rfl
      rw [hlen] at r0
      have HGOOD : Hid (TakeOut w (w.setCell ⟨rq, 0, none⟩ (.slice (some ⟨gs, 0, none⟩) l.length cap)) B gq rq C (a.2, g, { r with stk := l }) (.returned (.int .i64 a.2))) := hid ⟨rfl, ⟨_, _, _, _, h.setStk k4 rfl⟩, h.loR 0 _⟩
      have htk : Dr.take kind g r = if a.1 = kind then (a.2, g, { r with stk := l }) else (0, { g with err := 99 }, r) := by
        unfold Dr.take Dr.wrong
        rw [hla]
        by_cases hk : a.1 = kind <;> simp [hk, he]
      rw [htk]
      obtain ⟨a1, a2⟩ := a
      simp only at *
      have hN : l.length <= 1000 := by omega
      clear h htk hso k4 hla hs he hl hlen
      generalize l.length = N at *
      have w1 : wrap64 ((N : Int) + 1 - 1) = N := by unfold wrap64; omega
      have w2 : (0 : Int) <= (N : Int) := by omega
      have w3 : (N : Int) <= (cap : Int) := by omega
      by_cases hk : a1 = kind
      · rw [if_pos hk]
        subst hk
        clear HBAD
        go_enter Tryz.func85, Tryz.ntmps85
        go_wp2
        go_ret
        exact HGOOD.out
      · rw [if_neg hk]
        have n1 : (a1 == kind) = false := by simpa using hk
        have n2 : (a1 != kind) = true := by simpa using hk
        clear HGOOD
        go_enter Tryz.func85, Tryz.ntmps85
        go_wp2
        go_ret
        exact HBAD.out
  · rw [Dr.take_err he]
    have FIN : Hid (TakeOut w w B gq rq C (0, g, r) (.returned (.int .i64 0))) := hid ⟨rfl, ⟨_, _, _, _, h⟩, Lo.refl _ _ _ _⟩
    have n1 : (g.err == 0) = false := by simpa using he
    have n2 : (g.err != 0) = true := by simpa using he
    generalize r.stk.length = N at *
    clear h
    go_enter Tryz.func85, Tryz.ntmps85
    go_wp2
    go_ret
    exact FIN.out
theorem nd_swap {X S T : List Nat} {k : Nat} (h : (X ++ (S ++ T)).Nodup) (h1 : k ∉ X) (h2 : k ∉ T) : (X ++ ([k] ++ T)).Nodup := by
  rw [List.nodup_append] at h ⊢
  obtain ⟨a1, a2, a3⟩ := h
  rw [List.nodup_append] at a2
  refine ⟨a1, ?_, ?_⟩
  · rw [List.nodup_append]
    exact ⟨by simp, a2.2.1, fun a ha b hb e => by simp at ha; subst ha; exact h2 (by rw [e]; exact hb)⟩
  · intro a ha b hb e
    rcases List.mem_append.1 hb with hb | hb
    · simp only [List.mem_singleton] at hb; exact h1 (by rw [<- hb, <- e]; exact ha)
    · exact a3 a ha b (List.mem_append.2 (.inr hb)) e
section
variable {w w5 : World} {B gq rq : Nat} {C : Cx} {g : Gg} {r : Rm} {hv sv pv kv v2 : Value}
theorem Sx.named (h : Sx w B gq rq C g r hv sv pv kv) : ∀ k, k ∈ gq :: rq :: bl [hv, sv, pv, kv] -> k < w.heap.size := by
  intro k hk
  have hb : ∀ {b e size n : Nat} {v : Value} {xs : List Value}, w.ownsRow b e size v n xs -> k ∈ v.ownBlock.toList -> k < w.heap.size := fun ho hm => (ho.lt k (by simpa using hm)).2
  simp only [List.mem_cons, bl, List.flatMap_cons, List.flatMap_nil, List.append_nil, List.mem_append] at hk
  rcases hk with rfl | rfl | hk | hk | hk | hk
  · exact h.gl
  · exact h.rl
  · exact hb h.ho hk
  · exact hb h.so hk
  · exact hb h.po hk
  · exact hb h.ko hk
theorem Sx.appStk (h : Sx w B gq rq C g r hv sv pv kv) {l : List (Int × Int)} (hg : w.grownBy w5 sv.ownBlock) (ho : w5.ownsRow B 192 2 v2 l.length (vc l)) (hb : v2.ownBlock = sv.ownBlock \/ ∃ k, v2.ownBlock = some k /\ w.heap.size <= k) :
    Sx (w5.setCell ⟨rq, 0, none⟩ v2) B gq rq C g { r with stk := l } hv v2 pv kv := by
  have hnm := h.named
  obtain ⟨a1, a2⟩ := h.apart
  have hnd : (gq :: rq :: bl [hv, v2, pv, kv]).Nodup := by
    rcases hb with hb | ⟨k, hk, hkl⟩
    · have e : bl [hv, v2, pv, kv] = bl [hv, sv, pv, kv] := by simp [bl, hb]
      rw [e]; exact h.nd
    · have h0 : ((gq :: rq :: hv.ownBlock.toList) ++ (sv.ownBlock.toList ++ bl [pv, kv])).Nodup := by simpa [bl] using h.nd
      have hX : k ∉ gq :: rq :: hv.ownBlock.toList := fun hm => by have := hnm k (by simp only [List.mem_cons] at hm ⊢; rcases hm with hm | hm | hm; exact .inl hm; exact .inr (.inl hm); exact .inr (.inr (by simp [bl]; left; simpa using hm))); omega
      have hT : k ∉ bl [pv, kv] := fun hm => by have := hnm k (by simp only [List.mem_cons]; exact .inr (.inr (by simp [bl] at hm ⊢; exact .inr (.inr hm)))); omega
      have := nd_swap h0 hX hT
      simpa [bl, hk] using this
  have hss : ∀ k, k < w.heap.size -> k ∈ gq :: rq :: (hv.ownBlock.toList ++ bl [pv, kv]) -> w5.heap[k]? = w.heap[k]? := fun k hkl hk => hg.block k hkl (fun e => by
    have h0 : ((gq :: rq :: hv.ownBlock.toList) ++ (sv.ownBlock.toList ++ bl [pv, kv])).Nodup := by simpa [bl] using h.nd
    have hs : k ∈ sv.ownBlock.toList := by rw [<- e]; simp
    rw [List.nodup_append] at h0
    obtain ⟨_, b2, b3⟩ := h0
    rw [List.nodup_append] at b2
    simp only [List.mem_cons, List.mem_append] at hk
    rcases hk with hk | hk | hk | hk
    · exact b3 k (by simp [hk]) k (by simp [hs]) rfl
    · exact b3 k (by simp [hk]) k (by simp [hs]) rfl
    · exact b3 k (by simp only [List.mem_cons]; exact .inr (.inr hk)) k (by simp only [List.mem_append]; exact .inl hs) rfl
    · exact b2.2.2 k hs k hk rfl)
  have hset : ∀ k, k ≠ rq -> (w5.setCell ⟨rq, 0, none⟩ v2).heap[k]? = w5.heap[k]? := fun k hk => Below.heap_setCell _ _ _ _ hk
  have keep : ∀ {b e size n : Nat} {v : Value} {xs : List Value}, v ∈ [hv, pv, kv] -> w.ownsRow b e size v n xs -> (w5.setCell ⟨rq, 0, none⟩ v2).ownsRow b e size v n xs := fun {_ _ _ _ v _} hm ho => owns_block ho fun k hk2 => by
    have hm4 : v ∈ [hv, sv, pv, kv] := by simp only [List.mem_cons, List.not_mem_nil, or_false] at hm ⊢; rcases hm with hm | hm | hm; exact .inl hm; exact .inr (.inr (.inl hm)); exact .inr (.inr (.inr hm))
    rw [hset k (a2 k (mem_bl hm4 hk2)).2]
    refine hss k (ho.lt k hk2).2 ?_
    simp only [List.mem_cons, List.not_mem_nil, or_false] at hm
    simp only [List.mem_cons, List.mem_append]
    rcases hm with rfl | rfl | rfl
    · exact .inr (.inr (.inl (by rw [hk2]; simp)))
    · exact .inr (.inr (.inr (mem_bl (v := v) (by simp) hk2)))
    · exact .inr (.inr (.inr (mem_bl (v := v) (by simp) hk2)))
  have hrb : w5.heap[rq]? = w.heap[rq]? := hss rq h.rl (by simp)
  have hgb : w5.heap[gq]? = w.heap[gq]? := hss gq h.gl (by simp)
  have hv2r : ∀ k, v2.ownBlock = some k -> k ≠ rq := fun k hk e => by
    have := (List.nodup_cons.1 (List.nodup_cons.1 hnd).2).1
    exact this (by rw [<- e]; exact mem_bl (v := v2) (by simp) hk)
  refine ⟨(hset gq a1).trans (hgb.trans h.gb), ?_, keep (by simp) h.ho, owns_block ho fun k hk2 => hset k (hv2r k hk2), keep (by simp) h.po, keep (by simp) h.ko, h.lt, h.le, hnd, fun k hk => ⟨by have := (h.pr k hk).1; have := hg.size; simp; omega, fun hm => ?_⟩⟩
  rotate_left
  · have hp := h.pr k hk
    simp only [List.mem_cons, bl, List.flatMap_cons, List.flatMap_nil, List.append_nil, List.mem_append] at hp hm
    rcases hm with hm | hm | hm | hm | hm | hm
    · exact hp.2 (.inl hm)
    · exact hp.2 (.inr (.inl hm))
    · exact hp.2 (.inr (.inr (.inl hm)))
    · rcases hb with hb | ⟨k', hk', hkl⟩
      · exact hp.2 (.inr (.inr (.inr (.inl (by rw [<- hb]; exact hm)))))
      · rw [hk'] at hm
        simp at hm
        omega
    · exact hp.2 (.inr (.inr (.inr (.inr (.inl hm)))))
    · exact hp.2 (.inr (.inr (.inr (.inr (.inr hm)))))
  have := hrb.trans h.rb
  simp [World.setCell, Array.getElem?_modify, this]
end

set_option maxRecDepth 100000 in
set_option maxHeartbeats 1000000 in
theorem dput_any (w : World) (B gq rq : Nat) (C : Cx) (g : Gg) (r : Rm) (kind n : Int) (h : SO w B gq rq C g r) (hl : r.stk.length <= 1000) :
    Calls Tryz.prog 109 #[.pointer (some ⟨gq, 0, none⟩), .pointer (some ⟨rq, 0, none⟩), .int .i64 kind, .int .i64 n] w fun e w' => e = .returned (.tuple #[]) /\ OpOut w w' B gq rq C (Dr.put kind n g r) := by
  obtain ⟨j0, hj0, hy0, hy1, hy2⟩ := info_parts Tryz.info192
  obtain ⟨hv, sv, pv, kv, h⟩ := h
  obtain ⟨av, cap, hsv⟩ := owns_shape h.so
  subst hsv
  have c6 := h.c6
  have z6 := h.gz 6
  have r0 := h.r0
  by_cases he : g.err = 0
  · rw [he] at c6
    by_cases h16 : 16 <= r.stk.length
    · have e : Dr.put kind n g r = ({ g with err := 99 }, r) := by unfold Dr.put; rw [if_neg (by simpa using he), if_pos h16]
      rw [e]
      have FIN : Hid (OpOut w (w.setCell ⟨gq, 6, none⟩ (.int .i64 99)) B gq rq C ({ g with err := 99 }, r)) := hid ⟨⟨_, _, _, _, h.setErr 99⟩, h.loG 6 _⟩
      generalize r.stk.length = N at *
      clear h e he
      go_enter Tryz.func109, Tryz.ntmps109
      go_wp2
      refine bodyPost_ret (results_none rfl _ _ _) rfl ?_
      exact ⟨rfl, FIN.out⟩
    · have e : Dr.put kind n g r = (g, { r with stk := r.stk ++ [(kind, n)] }) := by unfold Dr.put; rw [if_neg (by simpa using he), if_neg h16]
      rw [e]
      have al := (Below.refl w.heap.size w).alloc (Nat.le_refl _) (.cells #[.int .i64 kind, .int .i64 n] 192)
      have hA := h.below al
      have hBw : B <= w.heap.size := Nat.le_of_lt (Nat.lt_of_le_of_lt h.le h.rl)
      have FIN : Hid (∀ v2 w5, w5.ownsRow B 192 2 v2 (r.stk.length + 1) (vc r.stk ++ [.int .i64 kind, .int .i64 n]) -> (w.alloc (.cells #[.int .i64 kind, .int .i64 n] 192)).grownBy w5 (Value.slice av r.stk.length cap).ownBlock -> (v2.ownBlock = (Value.slice av r.stk.length cap).ownBlock \/ v2.ownBlock = some (w.heap.size + 1)) -> OpOut w (w5.setCell ⟨rq, 0, none⟩ v2) B gq rq C (g, { r with stk := r.stk ++ [(kind, n)] })) := hid fun v2 w5 ho hg hb => by
        refine ⟨⟨_, _, _, _, hA.appStk (l := r.stk ++ [(kind, n)]) hg (by rw [vc_snoc, List.length_append]; exact ho) (hb.imp id fun hh => ⟨_, hh, by simp⟩)⟩, ?_⟩
        have l1 : Lo B gq C.P w (w.alloc (.cells #[.int .i64 kind, .int .i64 n] 192)) := h.loB al
        have l2 : Lo B gq C.P (w.alloc (.cells #[.int .i64 kind, .int .i64 n] 192)) w5 := Lo.grown hg (by simp; omega) (fun k hk => ⟨.inr (h.so.lt k hk).1, h.npb (by simp) hk⟩) (fun k hk => (hA.pr k hk).1)
        exact (l1.trans l2).trans (Lo.set (p := ⟨rq, 0, none⟩) (.inr h.le) h.npr _)
      have oA := hA.so
      have rA : ∀ w5, (w.alloc (.cells #[.int .i64 kind, .int .i64 n] 192)).grownBy w5 (Value.slice av r.stk.length cap).ownBlock -> w5.cell? ⟨rq, 0, none⟩ = some (.slice av r.stk.length cap) /\ w5.frozen? ⟨rq, 0, none⟩ = false := fun w5 hg => by
        have hne : some rq ≠ (Value.slice av r.stk.length cap).ownBlock := fun e => (h.apart.2 rq (mem_bl (v := .slice av r.stk.length cap) (by simp) e.symm)).2 rfl
        have hbk := (hg.block rq (by have := h.rl; simp; omega) hne).trans hA.rb
        exact ⟨by simp [World.cell?, hbk], by simp [World.frozen?, hbk]⟩
      have HRA := hid rA
      clear rA h hA e he
      have hN : r.stk.length < 16 := by omega
      generalize vc r.stk = XS at *
      generalize r.stk ++ [(kind, n)] = RS at *
      generalize r.stk.length = N at *
      go_enter Tryz.func109, Tryz.ntmps109
      go_wp2_with (at_builtin; refine wpList_append_keep rfl _ _ 141 rfl B 192 j0 (.agg #[.int .i64 0, .int .i64 0]) 2 16 Tryz.underlying141 hj0 hy0 hy1 hy2 rfl (by decide) _ _ _ rfl oA ⟨w.heap.size, 0, none⟩ 1 1 [.int .i64 kind, .int .i64 n] rfl rfl (cell_two _ _ _ _) ?t2 ?t3 ?t4 ?t5 (by decide) ?_)
      case t2 => intro u hu; simp at hu; rcases hu with rfl | rfl <;> rfl
      case t3 => unfold maxLen; omega
      case t4 => omega
      case t5 => simp only [World.size_alloc]; omega
      intro v2 w5 hv5 hg5 _ hl5
      obtain ⟨a2, cc2, rfl⟩ := owns_shape hv5
      obtain ⟨y0, y1⟩ := HRA.out w5 hg5
      have FF := hid (FIN.out _ _ hv5 hg5 hl5)
      clear FIN HRA hv5 hg5 hl5 oA
      go_wp2
      go_end0
      exact ⟨rfl, FF.out⟩
  · rw [Dr.put_err he]
    have FIN : Hid (OpOut w w B gq rq C (g, r)) := hid ⟨⟨_, _, _, _, h⟩, Lo.refl _ _ _ _⟩
    have n1 : (g.err == 0) = false := by simpa using he
    have n2 : (g.err != 0) = true := by simpa using he
    clear h
    go_enter Tryz.func109, Tryz.ntmps109
    go_wp2
    refine bodyPost_ret (results_none rfl _ _ _) rfl ?_
    exact ⟨rfl, FIN.out⟩
end Dw
end Go.Proofs.YtjamgmbdilkbcaaGreat

/- The document's two. -/
namespace Go.Proofs.YtjamgmbdilkbcaaGreat
open Go.RowKit

namespace Dw
open Dr (Gg Rm)

theorem take_len (k : Int) (g : Gg) (r : Rm) : (Dr.take k g r).2.2.stk.length <= r.stk.length := by
  unfold Dr.take
  split
  · simp
  · exact Nat.le_refl _
theorem put_len (k n : Int) (g : Gg) (r : Rm) (h : r.stk.length <= 16) : (Dr.put k n g r).2.stk.length <= 16 := by
  unfold Dr.put
  split
  · exact h
  · split
    · exact h
    · simp; omega
theorem wrong_dec {P : Prop} [Decidable P] (e : Int) (g : Gg) : Dr.wrong (decide P = true) e g = Dr.wrong P e g := by
  unfold Dr.wrong; simp only [decide_eq_true_eq]
theorem OpOut.trans {w w1 w2 : World} {B gq rq : Nat} {C : Cx} {p q : Gg × Rm} (h : OpOut w w1 B gq rq C p) (k : OpOut w1 w2 B gq rq C q) : OpOut w w2 B gq rq C q := ⟨k.1, h.2.trans k.2⟩
theorem dwrong_any (w : World) (B gq rq : Nat) (C : Cx) (g : Gg) (r : Rm) (b : Bool) (x : Int) (h : SO w B gq rq C g r) :
    Calls Tryz.prog 108 #[.pointer (some ⟨gq, 0, none⟩), .bool b, .int .i64 x] w fun e w' => e = .returned (.tuple #[]) /\ OpOut w w' B gq rq C (Dr.wrong (b = true) x g, r) := by
  obtain ⟨hv, sv, pv, kv, h⟩ := h
  refine (wrong_any w B gq rq C g r hv sv pv kv b x h).mono ?_
  rintro e w' ⟨rfl, h1, h2⟩
  exact ⟨rfl, ⟨_, _, _, _, h1⟩, h.loW h2⟩
set_option maxRecDepth 100000 in
set_option maxHeartbeats 1000000 in
theorem dtwo_any (w : World) (B gq rq : Nat) (C : Cx) (g : Gg) (r : Rm) (op : Int) (h : SO w B gq rq C g r) (hl : r.stk.length <= 16) (hop : op = 2 \/ op = 3 \/ op = 4 \/ op = 5) :
    Calls Tryz.prog 110 #[.pointer (some ⟨gq, 0, none⟩), .pointer (some ⟨rq, 0, none⟩), .int .i64 op] w fun e w' => e = .returned (.tuple #[]) /\ OpOut w w' B gq rq C (Dr.two op g r) := by
  have T1 := hid (dtake_any w B gq rq C g r 0 h (by omega))
  have l1 := take_len 0 g r
  have HD : Hid (Dr.two op g r = _) := hid (by unfold Dr.two; rfl)
  generalize Dr.take 0 g r = b at *
  obtain ⟨bn, bg, br⟩ := b
  simp only at *
  have T2 := hid fun (W : World) (hW : SO W B gq rq C bg br) => dtake_any W B gq rq C bg br 0 hW (by omega)
  have l2 := take_len 0 bg br
  generalize Dr.take 0 bg br = a at *
  obtain ⟨an, ag, ar⟩ := a
  simp only at *
  clear h
  rcases hop with rfl | rfl | rfl | rfl
  · have P := hid fun (W : World) (G : Gg) (hW : SO W B gq rq C G ar) => dput_any W B gq rq C G ar 0 (wrap64 (an + bn)) hW (by omega)
    simp only [if_true] at HD
    go_enter Tryz.func110, Tryz.ntmps110
    go_wp2_with fail
    refine T1.out.mono ?_
    rintro e w1 ⟨rfl, o1⟩
    go_wp2_with fail
    refine (T2.out _ o1.1).mono ?_
    rintro e w2 ⟨rfl, o2⟩
    clear T1 T2
    go_wp2_with fail
    refine (dwrong_any _ B gq rq C ag ar _ 6 o2.1).mono ?_
    rintro e w3 ⟨rfl, o3⟩
    rw [wrong_dec] at o3
    go_wp2_with fail
    refine (P.out _ _ o3.1).mono ?_
    rintro e w4 ⟨rfl, o4⟩
    have FF := hid (((o1.trans o2).trans o3).trans o4)
    clear o1 o2 o3 o4 P
    go_wp2
    go_end0
    rw [HD.out]
    exact ⟨rfl, FF.out⟩
  · have P := hid fun (W : World) (G : Gg) (hW : SO W B gq rq C G ar) => dput_any W B gq rq C G ar 0 (wrap64 (an - bn)) hW (by omega)
    simp only [show ¬ ((3 : Int) = 2) from by decide, if_false, if_true] at HD
    go_enter Tryz.func110, Tryz.ntmps110
    go_wp2_with fail
    refine T1.out.mono ?_
    rintro e w1 ⟨rfl, o1⟩
    go_wp2_with fail
    refine (T2.out _ o1.1).mono ?_
    rintro e w2 ⟨rfl, o2⟩
    clear T1 T2
    go_wp2_with fail
    refine (dwrong_any _ B gq rq C ag ar _ 6 o2.1).mono ?_
    rintro e w3 ⟨rfl, o3⟩
    rw [wrong_dec] at o3
    go_wp2_with fail
    refine (P.out _ _ o3.1).mono ?_
    rintro e w4 ⟨rfl, o4⟩
    have FF := hid (((o1.trans o2).trans o3).trans o4)
    clear o1 o2 o3 o4 P
    go_wp2
    go_end0
    rw [HD.out]
    exact ⟨rfl, FF.out⟩
  · simp only [show ¬ ((4 : Int) = 2) from by decide, show ¬ ((4 : Int) = 3) from by decide, if_false, if_true] at HD
    by_cases hlt : an < bn
    · rw [if_pos hlt] at HD
      have P := hid fun (W : World) (G : Gg) (hW : SO W B gq rq C G ar) => dput_any W B gq rq C G ar 0 1 hW (by omega)
      go_enter Tryz.func110, Tryz.ntmps110
      go_wp2_with fail
      refine T1.out.mono ?_
      rintro e w1 ⟨rfl, o1⟩
      go_wp2_with fail
      refine (T2.out _ o1.1).mono ?_
      rintro e w2 ⟨rfl, o2⟩
      clear T1 T2
      go_wp2_with fail
      refine (P.out _ _ o2.1).mono ?_
      rintro e w4 ⟨rfl, o4⟩
      have FF := hid ((o1.trans o2).trans o4)
      clear o1 o2 o4 P
      go_wp2
      go_end0
      rw [HD.out]
      exact ⟨rfl, FF.out⟩
    · rw [if_neg hlt] at HD
      have P := hid fun (W : World) (G : Gg) (hW : SO W B gq rq C G ar) => dput_any W B gq rq C G ar 0 0 hW (by omega)
      go_enter Tryz.func110, Tryz.ntmps110
      go_wp2_with fail
      refine T1.out.mono ?_
      rintro e w1 ⟨rfl, o1⟩
      go_wp2_with fail
      refine (T2.out _ o1.1).mono ?_
      rintro e w2 ⟨rfl, o2⟩
      clear T1 T2
      go_wp2_with fail
      refine (P.out _ _ o2.1).mono ?_
      rintro e w4 ⟨rfl, o4⟩
      have FF := hid ((o1.trans o2).trans o4)
      clear o1 o2 o4 P
      go_wp2
      go_end0
      rw [HD.out]
      exact ⟨rfl, FF.out⟩
  · simp only [show ¬ ((5 : Int) = 2) from by decide, show ¬ ((5 : Int) = 3) from by decide, show ¬ ((5 : Int) = 4) from by decide, if_false] at HD
    by_cases hlt : an = bn
    · rw [if_pos hlt] at HD
      have P := hid fun (W : World) (G : Gg) (hW : SO W B gq rq C G ar) => dput_any W B gq rq C G ar 0 1 hW (by omega)
      subst hlt
      go_enter Tryz.func110, Tryz.ntmps110
      go_wp2_with fail
      refine T1.out.mono ?_
      rintro e w1 ⟨rfl, o1⟩
      go_wp2_with fail
      refine (T2.out _ o1.1).mono ?_
      rintro e w2 ⟨rfl, o2⟩
      clear T1 T2
      go_wp2_with fail
      refine (P.out _ _ o2.1).mono ?_
      rintro e w4 ⟨rfl, o4⟩
      have FF := hid ((o1.trans o2).trans o4)
      clear o1 o2 o4 P
      go_wp2
      go_end0
      rw [HD.out]
      exact ⟨rfl, FF.out⟩
    · rw [if_neg hlt] at HD
      have n1 : (an == bn) = false := by simpa using hlt
      have P := hid fun (W : World) (G : Gg) (hW : SO W B gq rq C G ar) => dput_any W B gq rq C G ar 0 0 hW (by omega)
      go_enter Tryz.func110, Tryz.ntmps110
      go_wp2_with fail
      refine T1.out.mono ?_
      rintro e w1 ⟨rfl, o1⟩
      go_wp2_with fail
      refine (T2.out _ o1.1).mono ?_
      rintro e w2 ⟨rfl, o2⟩
      clear T1 T2
      go_wp2_with fail
      refine (P.out _ _ o2.1).mono ?_
      rintro e w4 ⟨rfl, o4⟩
      have FF := hid ((o1.trans o2).trans o4)
      clear o1 o2 o4 P
      go_wp2
      go_end0
      rw [HD.out]
      exact ⟨rfl, FF.out⟩
end Dw
end Go.Proofs.YtjamgmbdilkbcaaGreat
