import Derived.Test.YtjamgmbdilkbcaaGreatLotLedgers02
import Derived.Test.YtjamgmbdilkbcaaGreatLotLedgers01
import Derived.Deep.RegionWith
import Derived.Deep.RegionHeld3
import Derived.Laws.BytesString
import Derived.Laws.IdiomStrings
/- The walks of wire's reader: module. -/
namespace Go.Proofs.YtjamgmbdilkbcaaGreat
open Go.RowKit

theorem Tryz.info62 : (Tryz.prog.info? 62).map (fun i => (i.zero, i.size, i.bytes)) = some (some (.agg #[.slice none 0 0, .slice none 0 0, .slice none 0 0, .slice none 0 0]), 4, 96) := by kernel_rfl
theorem owns_other {w w' : World} {B e size n B2 e2 size2 n2 : Nat} {v v2 : Value} {xs ys : List Value} (h : w.ownsRow B e size v n xs) (h2 : w.ownsRow B2 e2 size2 v2 n2 ys) (hg : w.grownBy w' v2.ownBlock) (hne : e ≠ e2) : w'.ownsRow B e size v n xs := by
  refine h.kept hg ?_
  rcases h.2 with ⟨rfl, _⟩ | ⟨g, cap, cur, rfl, _, hh, _⟩
  · exact .inl rfl
  · rcases h2.2 with ⟨rfl, _⟩ | ⟨g2, cap2, cur2, rfl, _, hh2, _⟩
    · exact .inr (by simp [Value.ownBlock])
    · refine .inr ?_
      intro e'
      simp only [Value.ownBlock, Option.some.injEq] at e'
      subst e'
      rw [hh] at hh2
      simp at hh2
      exact hne hh2.2
theorem FnAt.other {w w' : World} {B B2 n2 : Nat} {f : Pu.Fn} {x : FV} {v2 : Value} {ys : List Value} (h : FnAt w B f x) (h2 : w.ownsRow B2 62 4 v2 n2 ys) (hg : w.grownBy w' v2.ownBlock) : FnAt w' B f x :=
  ⟨owns_other h.p h2 hg (by decide), owns_other h.r h2 hg (by decide), owns_other h.l h2 hg (by decide), owns_other h.c h2 hg (by decide)⟩
theorem FnAt.none {w w' : World} {B : Nat} {f : Pu.Fn} {x : FV} (h : FnAt w B f x) (hg : w.grownBy w' none) : FnAt w' B f x :=
  ⟨h.p.kept hg (by cases x.p.ownBlock <;> simp), h.r.kept hg (by cases x.r.ownBlock <;> simp), h.l.kept hg (by cases x.l.ownBlock <;> simp), h.c.kept hg (by cases x.c.ownBlock <;> simp)⟩
theorem FnAt.base {w : World} {B B' : Nat} {f : Pu.Fn} {x : FV} (h : FnAt w B f x) (hB : B' <= B) : FnAt w B' f x :=
  ⟨owns_base h.p hB, owns_base h.r hB, owns_base h.l hB, owns_base h.c hB⟩
theorem FnAt.shape {w : World} {B : Nat} {f : Pu.Fn} {x : FV} (h : FnAt w B f x) : ∃ a1 c1 a2 c2 a3 c3 a4 c4, x = ⟨.slice a1 f.params.length c1, .slice a2 f.results.length c2, .slice a3 f.locals.length c3, .slice a4 f.code.length c4⟩ := by
  obtain ⟨a1, c1, h1⟩ := owns_shape h.p
  obtain ⟨a2, c2, h2⟩ := owns_shape h.r
  obtain ⟨a3, c3, h3⟩ := owns_shape h.l
  obtain ⟨a4, c4, h4⟩ := owns_shape h.c
  obtain ⟨xp, xr, xl, xc⟩ := x
  simp only at h1 h2 h3 h4
  exact ⟨a1, c1, a2, c2, a3, c3, a4, c4, by rw [h1, h2, h3, h4]⟩
theorem FnAt.bl {w : World} {B : Nat} {f : Pu.Fn} {x : FV} (h : FnAt w B f x) : ∀ k ∈ bl x.cells, B <= k /\ k < w.heap.size := by
  intro k hk
  simp only [FV.cells, bl_cons, bl_nil, List.append_nil, List.mem_append] at hk
  rcases hk with hk | hk | hk | hk
  · exact owns_bl h.p k hk
  · exact owns_bl h.r k hk
  · exact owns_bl h.l k hk
  · exact owns_bl h.c k hk
def FnsAt (w : World) (B : Nat) : List Pu.Fn -> List FV -> Prop
  | [], [] => True
  | f :: fs, x :: xs => FnAt w B f x /\ FnsAt w B fs xs
  | _, _ => False
theorem FnsAt.imp {w w' : World} {B : Nat} (hi : ∀ f x, FnAt w B f x -> FnAt w' B f x) : ∀ {fs : List Pu.Fn} {xs : List FV}, FnsAt w B fs xs -> FnsAt w' B fs xs
  | [], [], _ => trivial
  | _ :: _, _ :: _, h => ⟨hi _ _ h.1, FnsAt.imp hi h.2⟩
  | [], _ :: _, h => h.elim
  | _ :: _, [], h => h.elim
theorem FnsAt.lower {w : World} {B B' : Nat} (hB : B' <= B) : ∀ {fs : List Pu.Fn} {xs : List FV}, FnsAt w B fs xs -> FnsAt w B' fs xs
  | [], [], _ => trivial
  | _ :: _, _ :: _, h => ⟨h.1.base hB, FnsAt.lower hB h.2⟩
  | [], _ :: _, h => h.elim
  | _ :: _, [], h => h.elim
theorem FnsAt.snoc {w : World} {B : Nat} {f : Pu.Fn} {x : FV} (hf : FnAt w B f x) : ∀ {fs : List Pu.Fn} {xs : List FV}, FnsAt w B fs xs -> FnsAt w B (fs ++ [f]) (xs ++ [x])
  | [], [], _ => ⟨hf, trivial⟩
  | _ :: _, _ :: _, h => ⟨h.1, FnsAt.snoc hf h.2⟩
  | [], _ :: _, h => h.elim
  | _ :: _, [], h => h.elim
def fc (xs : List FV) : List Value := xs.flatMap FV.cells
theorem fc_snoc (xs : List FV) (x : FV) : fc (xs ++ [x]) = fc xs ++ [x.p, x.r, x.l, x.c] := by simp [fc, FV.cells]
theorem fc_cons (xs : List FV) (x : FV) : fc (x :: xs) = x.cells ++ fc xs := by simp [fc]
theorem FnsAt.bl {w : World} {B : Nat} : ∀ {fs : List Pu.Fn} {xs : List FV}, FnsAt w B fs xs -> ∀ k ∈ bl (fc xs), B <= k /\ k < w.heap.size
  | [], [], _ => by simp [fc, YtjamgmbdilkbcaaGreat.bl]
  | _ :: _, x :: xs, h => by
    intro k hk
    rw [fc_cons, bl_append, List.mem_append] at hk
    rcases hk with hk | hk
    · exact h.1.bl k hk
    · exact FnsAt.bl h.2 k hk
  | [], _ :: _, h => h.elim
  | _ :: _, [], h => h.elim
theorem cell_four (w : World) (x y z u' : Value) (t : TypeId) : ∀ j u, [x, y, z, u'][j]? = some u -> (w.alloc (.cells #[x, y, z, u'] t)).cell? ((⟨w.heap.size, 0, none⟩ : Addr).add j) = some u := by
  intro j u hj
  have hadd : (⟨w.heap.size, 0, none⟩ : Addr).add j = ⟨w.heap.size, j, none⟩ := by unfold Addr.add; split <;> simp_all
  rw [hadd]
  have hh : (w.alloc (.cells #[x, y, z, u'] t)).heap[w.heap.size]? = some (.cells #[x, y, z, u'] t) := heap_alloc_new w _
  rw [cell_of_row _ w.heap.size j #[x, y, z, u'] t (0, 0) hh]
  simpa using hj
def F2 (w : World) (q : Nat) (t : TypeId) (x0 x1 : Value) : Prop := w.heap[q]? = some (.cells #[x0, x1] t (0, 0))
section
variable {w w' : World} {q : Nat} {t : TypeId} {x0 x1 : Value}
theorem F2.lt (h : F2 w q t x0 x1) : q < w.heap.size := (Array.getElem?_eq_some_iff.1 h).1
theorem F2.c0 (h : F2 w q t x0 x1) : w.cell? ⟨q, 0, none⟩ = some x0 := by unfold F2 at h; simp [World.cell?, h]
theorem F2.c1 (h : F2 w q t x0 x1) : w.cell? ⟨q, 1, none⟩ = some x1 := by unfold F2 at h; simp [World.cell?, h]
theorem F2.fz (h : F2 w q t x0 x1) (o : Nat) : w.frozen? ⟨q, o, none⟩ = false := by unfold F2 at h; simp [World.frozen?, h]
theorem F2.kept {r : Option Nat} (h : F2 w q t x0 x1) (hg : w.grownBy w' r) (hr : some q ≠ r) : F2 w' q t x0 x1 := (hg.block q h.lt hr).trans h
theorem F2.set0 (h : F2 w q t x0 x1) (v : Value) : F2 (w.setCell ⟨q, 0, none⟩ v) q t v x1 := by unfold F2 at h ⊢; simp [World.setCell, Array.getElem?_modify, h]
theorem F2.set1 (h : F2 w q t x0 x1) (v : Value) : F2 (w.setCell ⟨q, 1, none⟩ v) q t x0 v := by unfold F2 at h ⊢; simp [World.setCell, Array.getElem?_modify, h]
end

structure MdAt (w : World) (B : Nat) (m : Pu.Md) (k v : Value) (xs : List FV) : Prop where
  hk : w.ownsRow B 3 1 k m.kinds.length (m.kinds.map (Value.int .i64))
  hv : w.ownsRow B 62 4 v m.funcs.length (fc xs)
  hf : FnsAt w B m.funcs xs
  nd : (bl (k :: fc xs)).Nodup
theorem nodup_step {wr w2 : World} {B : Nat} {kv : Value} {kl : Nat} {ks : List Value} {fs : List Pu.Fn} {xs : List FV} {f : Pu.Fn} {x : FV}
    (hk : wr.ownsRow B 3 1 kv kl ks) (hf : FnsAt wr B fs xs) (nd : (bl (kv :: fc xs)).Nodup) (hx : FnAt w2 wr.heap.size f x) (ndx : (bl x.cells).Nodup) : (bl (kv :: fc (xs ++ [x]))).Nodup := by
  have e : bl (kv :: fc (xs ++ [x])) = bl (kv :: fc xs) ++ bl x.cells := by
    rw [fc_snoc, <- List.cons_append, bl_append]; rfl
  rw [e]
  refine List.nodup_append.2 ⟨nd, ndx, ?_⟩
  intro a ha c hc
  have h1 := hx.bl c hc
  rw [bl_cons, List.mem_append] at ha
  rcases ha with ha | ha
  · have := owns_bl hk a ha; omega
  · have := hf.bl a ha; omega
set_option maxHeartbeats 1000000 in
theorem module_any (p : Nat) (b : ByteArray) (w : World) (h : Rd w p b (0, false)) (hs : b.size <= maxLen) :
    Calls Tryz.prog 65 #[.pointer (some ⟨p, 0, none⟩)] w fun e w' =>
      ∃ (k v : Value) (xs : List FV), e = .returned (.agg #[k, v]) /\ MdAt w' w.heap.size (Pu.module b).1 k v xs /\
        Rd w' p b (Pu.module b).2 /\ w.grownBy w' (some p) := by
  obtain ⟨i0, hi0, hz0, hz1, hz2⟩ := info_parts Tryz.info62
  have hp := h.lt
  have hr0 := h.kept (World.grownBy_alloc w (.cells #[.slice none 0 0, .slice none 0 0] 38) none) (by simp)
  have hg0 := World.grownBy_alloc w (.cells #[.slice none 0 0, .slice none 0 0] 38) (some p)
  have hres : F2 (w.alloc (.cells #[.slice none 0 0, .slice none 0 0] 38)) w.heap.size 38 (.slice none 0 0) (.slice none 0 0) := heap_alloc_new w _
  clear h
  go_enter Tryz.func65, Tryz.ntmps65
  go_wp2_with fail
  refine (number_any p b _ 67 67 _ hr0 hs).mono ?_
  rintro e w1 ⟨rfl, hr1, hg, hsz⟩
  have hg1 := grown_trans hg0 hg
  have hres1 := hres.kept hg (by simp; omega)
  clear hr0 hg0 hg hsz hres
  generalize hq : Pu.number b 67 67 (0, false) = q at *
  have H1 : Hid _ := hq
  clear hq
  obtain ⟨c1, s1⟩ := q
  simp only at *
  go_wp2_with fail
  refine (number_any p b _ 70 70 _ hr1 hs).mono ?_
  rintro e w2 ⟨rfl, hr2, hg, hsz⟩
  have hg2 := grown_trans hg1 hg
  have hres2 := hres1.kept hg (by simp; omega)
  clear hr1 hg1 hg hsz hres1
  generalize hq : Pu.number b 70 70 s1 = q at *
  have H2 : Hid _ := hq
  clear hq
  obtain ⟨c2, s2⟩ := q
  simp only at *
  go_wp2_with fail
  refine (list_any p b _ 6 3 _ hr2 hs).mono ?_
  rintro e w3 ⟨kv, rfl, hk, hr3, hg⟩
  have hg3 := grown_trans hg2 hg
  have hres3 := hres2.kept hg (by simp; omega)
  have hB2 := hres2.lt
  clear hr2 hg2 hg hres2
  have hkl := list_len b 6 3 s2
  generalize hq : Pu.list b 6 3 s2 = q at *
  have H3 : Hid _ := hq
  clear hq
  obtain ⟨ks, s3⟩ := q
  simp only at *
  obtain ⟨ao, cap, rfl⟩ := owns_shape hk
  have hk4 := (owns_base hk (B' := w.heap.size + 1) (by omega)).alloc (.cells #[] 62)
  have hr4 := hr3.kept (World.grownBy_alloc w3 (.cells #[] 62) none) (by simp)
  have hg4 := grown_trans hg3 (World.grownBy_alloc w3 (.cells #[] 62) (some p))
  have hres4 := hres3.kept (World.grownBy_alloc w3 (.cells #[] 62) none) (by simp)
  have hv4 := World.ownsRow_made (base := w.heap.size + 1) (e := 62) (size := 4) w3 #[] 0 (by have := hres3.lt; omega) (by decide) (by simp)
  clear hk hr3 hg3 hres3
  go_wp2_with fail
  refine (number_any p b _ 1 8 _ hr4 hs).mono ?_
  rintro e w5 ⟨rfl, hr5, hg, hsz⟩
  have hg5 := grown_trans hg4 hg
  have hk5 := owns_grown hk4 hg (by omega)
  have hv5 := owns_grown hv4 hg (by omega)
  have hres5 := hres4.kept hg (by simp; omega)
  clear hr4 hg4 hg hsz hres4 hk4 hv4
  have hn0 := Pu.number_rng b 1 8 s3
  generalize hq : Pu.number b 1 8 s3 = q at *
  have H4 : Hid _ := hq
  clear hq
  obtain ⟨nn, s4⟩ := q
  simp only at *
  obtain ⟨n, rfl⟩ := Int.eq_ofNat_of_zero_le hn0.1
  have hn : n <= 255 := by omega
  clear hn0
  go_wp2
  go_loopw [4, 6] (fun v i wr => ∃ (k : Nat) (xs : List FV), k <= n /\ i = .int .i64 k /\ wr.ownsRow (w.heap.size + 1) 62 4 v k (fc xs) /\ FnsAt wr (w.heap.size + 1) (Pu.fns b ks.length n s4 k).1 xs /\
      (bl (Value.slice ao ks.length cap :: fc xs)).Nodup /\ wr.ownsRow (w.heap.size + 1) 3 1 (.slice ao ks.length cap) ks.length (ks.map (Value.int .i64)) /\
      Rd wr p b (Pu.fns b ks.length n s4 k).2 /\ w.grownBy wr (some p) /\ F2 wr w.heap.size 38 (.slice none 0 0) (.slice none 0 0)) (fun _ i _ => n - (intOf i).toNat)
  case atStart => exact ⟨0, [], Nat.zero_le _, rfl, hv5, trivial, by cases ao <;> simp [fc, bl, Value.ownBlock], hk5, hr5, hg5, hres5⟩
  case round =>
    obtain ⟨k, xs, hkn, rfl, hv, hf, hnd, hks, hrd, hgr, hres⟩ := hrel
    clear hv5 hk5 hr5 hg5 hres5
    by_cases hlt : k < n
    · go_wp2_with fail
      refine (function_any p b _ _ _ wr hrd hs (by omega) (by omega)).mono ?_
      rintro e w6 ⟨x, rfl, hx, hndx, hrd6, hg⟩
      have HS : Hid (Pu.fns b ks.length n s4 (k + 1) = ((Pu.fns b ks.length n s4 k).1 ++ [(Pu.func b ks.length n (Pu.fns b ks.length n s4 k).2).1], (Pu.func b ks.length n (Pu.fns b ks.length n s4 k).2).2)) := rfl
      have hgr6 := grown_trans hgr hg
      have hnd6 : Hid _ := nodup_step hks hf hnd hx hndx
      have hv6 := owns_grown hv hg (by omega)
      have hks6 := owns_grown hks hg (by omega)
      have hf6 := hf.imp (fun f y h => h.kept hg (by omega))
      have hres6 := hres.kept hg (by simp; omega)
      have hx6 := hx.base (B' := w.heap.size + 1) (by have := hres.lt; omega)
      clear hv hf hnd hks hrd hgr hres hx hndx hg
      generalize Pu.func b ks.length n (Pu.fns b ks.length n s4 k).2 = q at *
      obtain ⟨f, s6⟩ := q
      simp only at *
      obtain ⟨a1, c1', a2, c2', a3, c3', a4, c4', rfl⟩ := hx6.shape
      generalize ho1 : Obj.cells #[.slice a1 f.params.length c1', .slice a2 f.results.length c2', .slice a3 f.locals.length c3', .slice a4 f.code.length c4'] 62 = o1
      have hv7 := hv6.alloc o1
      have hks7 := hks6.alloc o1
      have hf7 := hf6.imp (fun f y h => h.none (World.grownBy_alloc w6 o1 none))
      have hres7 := hres6.kept (World.grownBy_alloc w6 o1 none) (by simp)
      have hx7 := hx6.none (World.grownBy_alloc w6 o1 none)
      have hrd7 := hrd6.kept (World.grownBy_alloc w6 o1 none) (by simp)
      have hgr7 := grown_trans hgr6 (World.grownBy_alloc w6 o1 (some p))
      subst ho1
      clear hv6 hks6 hf6 hres6 hx6 hrd6 hgr6
      go_wp2_with (at_builtin; refine wpList_append_own _ rfl _ _ 36 rfl (w.heap.size + 1) 62 i0 (.agg #[.slice none 0 0, .slice none 0 0, .slice none 0 0, .slice none 0 0]) 4 96 Tryz.underlying36 hi0 hz0 hz1 hz2 rfl (by decide) _ _ _ rfl (hv7.alloc _) ⟨w6.heap.size + 1, 0, none⟩ 1 1 [.slice a1 f.params.length c1', .slice a2 f.results.length c2', .slice a3 f.locals.length c3', .slice a4 f.code.length c4'] rfl rfl ?c1 ?c2 ?c3 ?c4 ?c5 ?_)
      case c1 =>
        have := cell_four (w6.alloc (.cells #[.slice a1 f.params.length c1', .slice a2 f.results.length c2', .slice a3 f.locals.length c3', .slice a4 f.code.length c4'] 62)) (.slice a1 f.params.length c1') (.slice a2 f.results.length c2') (.slice a3 f.locals.length c3') (.slice a4 f.code.length c4') 62
        simpa using this
      case c2 => intro u hu; simp at hu; rcases hu with rfl | rfl | rfl | rfl <;> rfl
      case c3 => unfold maxLen; omega
      case c4 => omega
      case c5 => have := hgr7.size; have := hres7.lt; simp at this ⊢; omega
      intro v' w8 hv8 hgrow _
      have hgr8 : w.grownBy w8 (some p) := grown_append (B := w.heap.size) rfl hgr7 (owns_base (hv7.alloc _) (by omega)) (World.grownBy_alloc _ _ (some p)) hgrow
      have hrd8 : Rd w8 p b s6 := (hrd7.kept (World.grownBy_alloc _ _ none) (by simp)).kept hgrow (fun e => by have := (hv7.lt p e.symm).1; omega)
      have hres8 := (hres7.kept (World.grownBy_alloc _ _ none) (by simp)).kept hgrow (fun e => by have := (hv7.lt _ e.symm).1; omega)
      have hks8 := owns_other (hks7.alloc _) (hv7.alloc _) hgrow (by decide)
      have hf8 := (hf7.imp (fun f y h => h.none (World.grownBy_alloc _ _ none))).imp (fun f y h => h.other (hv7.alloc _) hgrow)
      have hx8 := (hx7.none (World.grownBy_alloc _ _ none)).other (hv7.alloc _) hgrow
      clear hgrow hv7 hks7 hf7 hres7 hx7 hrd7 hgr7
      go_wp2
      go_roundw
      case rel =>
        refine ⟨k + 1, xs ++ [⟨.slice a1 f.params.length c1', .slice a2 f.results.length c2', .slice a3 f.locals.length c3', .slice a4 f.code.length c4'⟩], hlt, by go_num, ?_, ?_, ?_, hks8, ?_, hgr8, hres8⟩
        · rw [fc_snoc]; exact hv8
        · rw [HS.out]; exact hf8.snoc hx8
        · exact hnd6.out
        · rw [HS.out]; exact hrd8
      case measure => simp [intOf]; omega
    · obtain ⟨ao4, cap4, rfl⟩ := owns_shape hv
      have g0 := hres.c0
      have g1 := hres.c1
      have e0 := hres.fz 0
      have e1 := hres.fz 1
      go_wp2
      clear g0 g1 e0 e1
      have hkn' : k = n := by omega
      subst hkn'
      have R := (hres.set0 (.slice ao ks.length cap)).set1 (.slice ao4 k cap4)
      have q0 := R.c0
      have q1 := R.c1
      have hP : Pu.module b = (⟨ks, (Pu.fns b ks.length k s4 k).1⟩, (Pu.fns b ks.length k s4 k).2) := by simp only [Pu.module, H1.out, H2.out, H3.out, H4.out, Int.toNat_natCast]
      refine bodyPost_ret (v := .agg #[.slice ao ks.length cap, .slice ao4 k cap4]) (by simp [results, Tryz.results65, go_sem, q0, q1]) rfl ⟨_, _, xs, rfl, ?_, ?_, grown_new (grown_new hgr (Nat.le_refl _) 0 _) (Nat.le_refl _) 1 _⟩
      · rw [hP]
        refine ⟨owns_base (owns_set_lt (owns_set_lt hks (by omega) 0 _) (by omega) 1 _) (by omega), ?_, ?_, hnd⟩
        · rw [show (Pu.Md.funcs ⟨ks, (Pu.fns b ks.length k s4 k).1⟩).length = k from Pu.fns_len _ _ _ _ _]
          exact owns_base (owns_set_lt (owns_set_lt hv (by omega) 0 _) (by omega) 1 _) (by omega)
        · exact FnsAt.lower (by omega) ((hf.imp (fun f y h => h.kept (grown_set _ _ _ _) (by omega))).imp (fun f y h => h.kept (grown_set _ _ _ _) (by omega)))
      · rw [hP]
        exact (hrd.set (by omega)).set (by omega)
end Go.Proofs.YtjamgmbdilkbcaaGreat

/- The walks of wire's reader: end, ReadModule; coffer.Decode. -/
namespace Go.Proofs.YtjamgmbdilkbcaaGreat
open Go.RowKit

set_option maxHeartbeats 400000 in
theorem end_any (p : Nat) (b : ByteArray) (s : Pu.St) (w : World) (h : Rd w p b s) :
    Calls Tryz.prog 66 #[.pointer (some ⟨p, 0, none⟩)] w fun e w' =>
      e = .returned (.tuple #[]) /\ Rd w' p b (Pu.atEnd b s) /\ w.grownBy w' (some p) := by
  have h0 := h.c0
  have h1 := h.c1
  have h2 := h.c2
  have h3 := h.fz 2
  obtain ⟨k, bad⟩ := s
  simp only at *
  by_cases hk : k < b.size
  · have e1 : Pu.atEnd b (k, bad) = (k, true) := by simp [Pu.atEnd, hk]
    rw [e1]
    clear e1
    have h4 : ∀ n, Rd ((w.drewN n).setCell ⟨p, 2, none⟩ (.bool true)) p b (k, true) := by
      intro n
      unfold Rd at h ⊢
      simp [World.setCell, Array.getElem?_modify, h]
    have hg : ∀ n, w.grownBy ((w.drewN n).setCell ⟨p, 2, none⟩ (.bool true)) (some p) := fun n => grown_setCell _ _ _ _ _
    have H4 : Hid _ := h4
    have HG : Hid _ := hg
    clear h4 hg h
    go_enter Tryz.func66, Tryz.ntmps66
    go_wp2
    go_quiet (fail)
    go_wp2
    go_end0
    exact ⟨rfl, H4.out _, HG.out _⟩
  · have e1 : Pu.atEnd b (k, bad) = (k, bad) := by simp [Pu.atEnd, hk]
    rw [e1]
    clear e1
    go_enter Tryz.func66, Tryz.ntmps66
    go_wp2
    go_quiet (fail)
    go_wp2
    go_end0
    exact ⟨rfl, by simpa [Rd] using h, ⟨rfl, rfl, rfl, Nat.le_refl _, fun _ _ _ => rfl⟩⟩
theorem MdAt.kept {w w' : World} {B p : Nat} {m : Pu.Md} {k v : Value} {xs : List FV} (h : MdAt w B m k v xs) (hg : w.grownBy w' (some p)) (hp : p < B) : MdAt w' B m k v xs :=
  ⟨owns_grown h.hk hg hp, owns_grown h.hv hg hp, h.hf.imp (fun _ _ k => k.kept hg hp), h.nd⟩
theorem MdAt.none {w w' : World} {B : Nat} {m : Pu.Md} {k v : Value} {xs : List FV} (h : MdAt w B m k v xs) (hg : w.grownBy w' none) : MdAt w' B m k v xs :=
  ⟨h.hk.kept hg (by cases k.ownBlock <;> simp), h.hv.kept hg (by cases v.ownBlock <;> simp), h.hf.imp (fun _ _ k => k.none hg), h.nd⟩
theorem MdAt.base {w : World} {B B' : Nat} {m : Pu.Md} {k v : Value} {xs : List FV} (h : MdAt w B m k v xs) (hB : B' <= B) : MdAt w B' m k v xs :=
  ⟨owns_base h.hk hB, owns_base h.hv hB, h.hf.lower hB, h.nd⟩
def DecOut (w w' : World) (b : ByteArray) (e : Ending) : Prop :=
  (∃ (k v : Value) (xs : List FV), e = .returned (.tuple #[.agg #[k, v], .int .i64 0, .int .i64 0]) /\ MdAt w' w.heap.size (Pu.decode b).1 k v xs /\ (Pu.decode b).2 = (0, 0)) \/
  (e = .returned (.tuple #[.agg #[.slice none 0 0, .slice none 0 0], .int .i64 (Pu.decode b).2.1, .int .i64 (Pu.decode b).2.2]) /\ (Pu.decode b).1 = ⟨[], []⟩ /\ (Pu.decode b).2.1 ≠ 0)
set_option maxHeartbeats 1000000 in
theorem readModule_any (b : ByteArray) (w : World) (hs : b.size <= maxLen) :
    Calls Tryz.prog 37 #[.string b] w fun e w' => DecOut w w' b e /\ Below w.heap.size w w' := by
  by_cases hl : 1500 < b.size
  · have hd : Pu.decode b = (⟨[], []⟩, 1, 0) := by simp [Pu.decode, hl]
    have HD : Hid _ := hd
    clear hd
    go_enter Tryz.func37, Tryz.ntmps37
    go_wp2
    refine bodyPost_ret (v := .tuple #[.agg #[.slice none 0 0, .slice none 0 0], .int .i64 1, .int .i64 0]) (by simp [results, Tryz.results37, go_sem]) rfl ⟨.inr ?_, (Below.refl _ _).alloc (Nat.le_refl _) _⟩
    rw [HD.out]
    exact ⟨rfl, rfl, by decide⟩
  · have hr0 : Rd ((w.alloc (Obj.cells #[Value.slice none 0 0, Value.slice none 0 0] 38)).alloc (Obj.cells #[Value.string b, Value.int IntKind.i64 0, Value.bool false] 148)) (w.heap.size + 1) b (0, false) := by
      have := heap_alloc_new (w.alloc (Obj.cells #[Value.slice none 0 0, Value.slice none 0 0] 38)) (Obj.cells #[Value.string b, Value.int IntKind.i64 0, Value.bool false] 148)
      simpa [Rd] using this
    have hres : F2 ((w.alloc (Obj.cells #[Value.slice none 0 0, Value.slice none 0 0] 38)).alloc (Obj.cells #[Value.string b, Value.int IntKind.i64 0, Value.bool false] 148)) w.heap.size 38 (.slice none 0 0) (.slice none 0 0) :=
      F2.kept (w := w.alloc (Obj.cells #[Value.slice none 0 0, Value.slice none 0 0] 38)) (heap_alloc_new w _) (World.grownBy_alloc _ _ none) (by simp)
    have hb0 : Below w.heap.size w ((w.alloc (Obj.cells #[Value.slice none 0 0, Value.slice none 0 0] 38)).alloc (Obj.cells #[Value.string b, Value.int IntKind.i64 0, Value.bool false] 148)) :=
      ((Below.refl _ _).alloc (Nat.le_refl _) _).alloc (by simp) _
    go_enter Tryz.func37, Tryz.ntmps37
    go_wp2_with fail
    refine (module_any (w.heap.size + 1) b _ hr0 hs).mono ?_
    rintro e w1 ⟨k, v, xs, rfl, hm, hr1, hg⟩
    have hres1 := hres.kept hg (by simp)
    have hb1 := hb0.grown hg (by simp only [World.size_alloc]; omega) (by intro k hk; simp at hk; omega)
    clear hr0 hres hb0 hg
    simp only [World.size_alloc] at hm
    obtain ⟨a1, c1, rfl⟩ := owns_shape hm.hk
    obtain ⟨a2, c2, rfl⟩ := owns_shape hm.hv
    have HD : Hid (Pu.decode b = if (Pu.atEnd b (Pu.module b).2).2 = true then (⟨[], []⟩, 2, ((Pu.atEnd b (Pu.module b).2).1 : Int)) else ((Pu.module b).1, 0, 0)) := by
      show Pu.decode b = _
      unfold Pu.decode
      rw [if_neg hl]
    generalize Pu.module b = q at *
    obtain ⟨m, s⟩ := q
    simp only at *
    have hr2 := hr1.kept (World.grownBy_alloc w1 (.cells #[.slice a1 m.kinds.length c1, .slice a2 m.funcs.length c2] 38) none) (by simp)
    have hres2 := hres1.kept (World.grownBy_alloc w1 (.cells #[.slice a1 m.kinds.length c1, .slice a2 m.funcs.length c2] 38) none) (by simp)
    have hm2 := hm.none (World.grownBy_alloc w1 (.cells #[.slice a1 m.kinds.length c1, .slice a2 m.funcs.length c2] 38) none)
    have hmv2 : F2 (w1.alloc (.cells #[.slice a1 m.kinds.length c1, .slice a2 m.funcs.length c2] 38)) w1.heap.size 38 (.slice a1 m.kinds.length c1) (.slice a2 m.funcs.length c2) := heap_alloc_new w1 _
    have hw1 := hr1.lt
    have hb2 := hb1.alloc (by omega) (.cells #[.slice a1 m.kinds.length c1, .slice a2 m.funcs.length c2] 38)
    clear hr1 hres1 hm hb1
    go_wp2_with fail
    refine (end_any (w.heap.size + 1) b _ _ hr2).mono ?_
    rintro e w3 ⟨rfl, hr3, hg⟩
    have hres3 := hres2.kept hg (by simp)
    have hm3 := hm2.kept hg (by omega)
    have hmv3 := hmv2.kept hg (by simp; omega)
    have hb3 := hb2.grown hg (by simp only [World.size_alloc]; omega) (by intro k hk; simp at hk; omega)
    clear hr2 hres2 hm2 hmv2 hb2 hg
    generalize Pu.atEnd b s = s' at *
    obtain ⟨at', bad⟩ := s'
    simp only at *
    have d1 := hr3.c1
    have d2 := hr3.c2
    have m0 := hmv3.c0
    have m1 := hmv3.c1
    have g0 := hres3.c0
    have g1 := hres3.c1
    have e0 := hres3.fz 0
    have e1 := hres3.fz 1
    cases bad with
    | true =>
      go_wp2
      go_region
      all_goals go_wp2
      clear g0 g1 e0 e1 d1 d2 m0 m1
      have R := (hres3.set0 (.slice none 0 0)).set1 (.slice none 0 0)
      have q0 := R.c0
      have q1 := R.c1
      refine bodyPost_ret (v := .tuple #[.agg #[.slice none 0 0, .slice none 0 0], .int .i64 2, .int .i64 at']) (by simp [results, Tryz.results37, go_sem, q0, q1]) rfl ⟨.inr ?_, ((hb3.setCell (Nat.le_refl _) _).setCell (Nat.le_refl _) _).drew⟩
      rw [HD.out, if_pos trivial]
      exact ⟨rfl, rfl, by show (2 : Int) ≠ 0; decide⟩
    | false =>
      go_wp2
      clear g0 g1 e0 e1 d1 d2 m0 m1
      have R := (hres3.set0 (.slice a1 m.kinds.length c1)).set1 (.slice a2 m.funcs.length c2)
      have q0 := R.c0
      have q1 := R.c1
      refine bodyPost_ret (v := .tuple #[.agg #[.slice a1 m.kinds.length c1, .slice a2 m.funcs.length c2], .int .i64 0, .int .i64 0]) (by simp [results, Tryz.results37, go_sem, q0, q1]) rfl ⟨.inl ?_, (hb3.setCell (Nat.le_refl _) _).setCell (Nat.le_refl _) _⟩
      rw [HD.out, if_neg (by simp)]
      exact ⟨_, _, xs, rfl, ((hm3.kept (grown_set _ _ _ _) (by omega)).kept (grown_set _ _ _ _) (by omega)).base (by omega), rfl⟩
end Go.Proofs.YtjamgmbdilkbcaaGreat

/- Plain functions: what a module may be; its bytes. -/
namespace Go.Proofs.YtjamgmbdilkbcaaGreat
namespace Pu

def isList (l : List Int) (most hi : Int) : Bool := decide ((l.length : Int) <= most) && l.all fun x => decide (0 <= x) && decide (x <= hi)
def isInstr (kinds funcs places n : Int) (x : Int × Int) : Bool :=
  decide (0 <= x.1) && decide (x.1 <= 18) && decide (argLo x.1 <= x.2) && decide (x.2 <= argHi kinds funcs places n x.1)
def isCode (l : List (Int × Int)) (kinds funcs places n : Int) : Bool := l.all (isInstr kinds funcs places n)
def isFn (f : Fn) (kinds funcs : Int) : Bool :=
  isList f.params 4 kinds && (isList f.results 3 kinds && (isList f.locals 4 kinds && (decide (1 <= f.code.length) && (decide (f.code.length <= 100) &&
    isCode f.code kinds funcs ((f.params.length : Int) + (f.locals.length : Int)) f.code.length))))
def isMd (m : Md) : Bool :=
  isList m.kinds 6 3 && (decide (1 <= m.funcs.length) && (decide (m.funcs.length <= 8) && m.funcs.all fun f => isFn f m.kinds.length m.funcs.length))
def byte (n : Int) : UInt8 := UInt8.ofNat (n % 256).toNat
def wList (l : List Int) : List UInt8 := byte l.length :: l.map byte
def wCode (l : List (Int × Int)) : List UInt8 := l.flatMap fun x => [byte x.1, byte x.2]
def wFn (f : Fn) : List UInt8 := wList f.params ++ (wList f.results ++ (wList f.locals ++ (byte f.code.length :: wCode f.code)))
def wFns (fs : List Fn) : List UInt8 := fs.flatMap wFn
def wMd (m : Md) : List UInt8 := 67 :: 70 :: (wList m.kinds ++ (byte m.funcs.length :: wFns m.funcs))
def encode (m : Md) : List UInt8 × Int :=
  if isMd m = true then (if 1500 < (wMd m).length then ([], 1) else (wMd m, 0)) else ([], 2)
end Pu
end Go.Proofs.YtjamgmbdilkbcaaGreat

/- The walks of wire's writer: isList. -/
namespace Go.Proofs.YtjamgmbdilkbcaaGreat
open Go.RowKit

def IntsR (w : World) (B : Nat) (v : Value) (l : List Int) : Prop :=
  ∃ (ao : Option Addr) (cap b off : Nat), v = .slice ao l.length cap /\ (0 < l.length -> ao = some ⟨b, off, none⟩ /\ b < B) /\ ∀ j, j < l.length -> w.cell? ⟨b, off + j, none⟩ = some (.int .i64 (l.getD j 0))
theorem IntsR.below {w w' : World} {B : Nat} {v : Value} {l : List Int} (h : IntsR w B v l) (hb : Below B w w') : IntsR w' B v l := by
  obtain ⟨ao, cap, b, off, hv, h1, h2⟩ := h
  refine ⟨ao, cap, b, off, hv, h1, fun j hj => ?_⟩
  rw [hb.cell (p := ⟨b, off + j, none⟩) (h1 (by omega)).2]
  exact h2 j hj
theorem ret_bool {a b : Bool} (h : b = a) : Ending.returned (.bool a) = .returned (.bool b) := by rw [h]
theorem take_all_snoc {α : Type} (l : List α) (f : α -> Bool) (k : Nat) (d : α) (hk : k < l.length) : (l.take (k + 1)).all f = ((l.take k).all f && f (l.getD k d)) := by
  rw [List.take_succ_eq_append_getElem hk, List.all_append]
  simp [List.getD_eq_getElem?_getD, hk]
theorem all_false_of {α : Type} (l : List α) (f : α -> Bool) (k : Nat) (d : α) (hk : k < l.length) (h : f (l.getD k d) = false) : l.all f = false := by
  rw [List.all_eq_false]
  refine ⟨l[k], List.getElem_mem hk, ?_⟩
  simp [List.getD_eq_getElem?_getD, hk] at h
  simp [h]
end Go.Proofs.YtjamgmbdilkbcaaGreat

/- The walks of wire's writer: isCode. -/
namespace Go.Proofs.YtjamgmbdilkbcaaGreat
open Go.RowKit

def CodeR (w : World) (B : Nat) (v : Value) (l : List (Int × Int)) : Prop :=
  ∃ (ao : Option Addr) (cap b off : Nat), v = .slice ao l.length cap /\ (0 < l.length -> ao = some ⟨b, off, none⟩ /\ b < B) /\
    ∀ j, j < l.length -> w.cell? ⟨b, off + j * 2, none⟩ = some (.int .i64 (l.getD j (0, 0)).1) /\ w.cell? ⟨b, off + j * 2 + 1, none⟩ = some (.int .i64 (l.getD j (0, 0)).2)
theorem CodeR.below {w w' : World} {B : Nat} {v : Value} {l : List (Int × Int)} (h : CodeR w B v l) (hb : Below B w w') : CodeR w' B v l := by
  obtain ⟨ao, cap, b, off, hv, h1, h2⟩ := h
  refine ⟨ao, cap, b, off, hv, h1, fun j hj => ?_⟩
  rw [hb.cell (p := ⟨b, off + j * 2, none⟩) (h1 (by omega)).2, hb.cell (p := ⟨b, off + j * 2 + 1, none⟩) (h1 (by omega)).2]
  exact h2 j hj
end Go.Proofs.YtjamgmbdilkbcaaGreat

/- The walks of wire's writer: isFunction. -/
namespace Go.Proofs.YtjamgmbdilkbcaaGreat
open Go.RowKit

theorem IntsR.shape {w : World} {B : Nat} {v : Value} {l : List Int} (h : IntsR w B v l) : ∃ ao cap, v = .slice ao l.length cap := by
  obtain ⟨ao, cap, b, off, hv, _⟩ := h
  exact ⟨ao, cap, hv⟩
theorem CodeR.shape {w : World} {B : Nat} {v : Value} {l : List (Int × Int)} (h : CodeR w B v l) : ∃ ao cap, v = .slice ao l.length cap := by
  obtain ⟨ao, cap, b, off, hv, _⟩ := h
  exact ⟨ao, cap, hv⟩
structure FnR (w : World) (B : Nat) (x : FV) (f : Pu.Fn) : Prop where
  p : IntsR w B x.p f.params
  r : IntsR w B x.r f.results
  l : IntsR w B x.l f.locals
  c : CodeR w B x.c f.code
  np : f.params.length <= maxLen
  nr : f.results.length <= maxLen
  nl : f.locals.length <= maxLen
  nc : f.code.length <= maxLen
theorem FnR.below {w w' : World} {B : Nat} {x : FV} {f : Pu.Fn} (h : FnR w B x f) (hb : Below B w w') : FnR w' B x f :=
  ⟨h.p.below hb, h.r.below hb, h.l.below hb, h.c.below hb, h.np, h.nr, h.nl, h.nc⟩
theorem FnR.shape {w : World} {B : Nat} {x : FV} {f : Pu.Fn} (h : FnR w B x f) : ∃ a1 c1 a2 c2 a3 c3 a4 c4, x = ⟨.slice a1 f.params.length c1, .slice a2 f.results.length c2, .slice a3 f.locals.length c3, .slice a4 f.code.length c4⟩ := by
  obtain ⟨a1, c1, h1⟩ := h.p.shape
  obtain ⟨a2, c2, h2⟩ := h.r.shape
  obtain ⟨a3, c3, h3⟩ := h.l.shape
  obtain ⟨a4, c4, h4⟩ := h.c.shape
  obtain ⟨xp, xr, xl, xc⟩ := x
  simp only at h1 h2 h3 h4
  exact ⟨a1, c1, a2, c2, a3, c3, a4, c4, by rw [h1, h2, h3, h4]⟩
theorem IntsR.wide {w : World} {B B' : Nat} {v : Value} {l : List Int} (h : IntsR w B v l) (hB : B <= B') : IntsR w B' v l := by
  obtain ⟨ao, cap, b, off, hv, h1, h2⟩ := h
  exact ⟨ao, cap, b, off, hv, fun hl => ⟨(h1 hl).1, Nat.lt_of_lt_of_le (h1 hl).2 hB⟩, h2⟩
theorem CodeR.wide {w : World} {B B' : Nat} {v : Value} {l : List (Int × Int)} (h : CodeR w B v l) (hB : B <= B') : CodeR w B' v l := by
  obtain ⟨ao, cap, b, off, hv, h1, h2⟩ := h
  exact ⟨ao, cap, b, off, hv, fun hl => ⟨(h1 hl).1, Nat.lt_of_lt_of_le (h1 hl).2 hB⟩, h2⟩
end Go.Proofs.YtjamgmbdilkbcaaGreat

/- The walks of wire's writer: isModule. -/
namespace Go.Proofs.YtjamgmbdilkbcaaGreat
open Go.RowKit

def FnsR (w : World) (B : Nat) (v : Value) (fs : List Pu.Fn) : Prop :=
  ∃ (ao : Option Addr) (cap b off : Nat), v = .slice ao fs.length cap /\ (0 < fs.length -> ao = some ⟨b, off, none⟩ /\ b < B) /\
    ∀ j, j < fs.length -> ∃ x : FV, w.cell? ⟨b, off + j * 4, none⟩ = some x.p /\ w.cell? ⟨b, off + j * 4 + 1, none⟩ = some x.r /\ w.cell? ⟨b, off + j * 4 + 2, none⟩ = some x.l /\ w.cell? ⟨b, off + j * 4 + 3, none⟩ = some x.c /\
      FnR w B x (fs.getD j ⟨[], [], [], []⟩)
theorem FnsR.below {w w' : World} {B : Nat} {v : Value} {fs : List Pu.Fn} (h : FnsR w B v fs) (hb : Below B w w') : FnsR w' B v fs := by
  obtain ⟨ao, cap, b, off, hv, h1, h2⟩ := h
  refine ⟨ao, cap, b, off, hv, h1, fun j hj => ?_⟩
  obtain ⟨x, g0, g1, g2, g3, hx⟩ := h2 j hj
  have hbB := (h1 (by omega)).2
  exact ⟨x, (hb.cell (p := ⟨b, off + j * 4, none⟩) hbB).trans g0, (hb.cell (p := ⟨b, off + j * 4 + 1, none⟩) hbB).trans g1, (hb.cell (p := ⟨b, off + j * 4 + 2, none⟩) hbB).trans g2, (hb.cell (p := ⟨b, off + j * 4 + 3, none⟩) hbB).trans g3, hx.below hb⟩
theorem FnR.wide {w : World} {B B' : Nat} {x : FV} {f : Pu.Fn} (h : FnR w B x f) (hB : B <= B') : FnR w B' x f :=
  ⟨h.p.wide hB, h.r.wide hB, h.l.wide hB, h.c.wide hB, h.np, h.nr, h.nl, h.nc⟩
theorem FnsR.wide {w : World} {B B' : Nat} {v : Value} {fs : List Pu.Fn} (h : FnsR w B v fs) (hB : B <= B') : FnsR w B' v fs := by
  obtain ⟨ao, cap, b, off, hv, h1, h2⟩ := h
  refine ⟨ao, cap, b, off, hv, fun hl => ⟨(h1 hl).1, Nat.lt_of_lt_of_le (h1 hl).2 hB⟩, fun j hj => ?_⟩
  obtain ⟨x, g0, g1, g2, g3, hx⟩ := h2 j hj
  exact ⟨x, g0, g1, g2, g3, hx.wide hB⟩
theorem FnsR.shape {w : World} {B : Nat} {v : Value} {l : List Pu.Fn} (h : FnsR w B v l) : ∃ ao cap, v = .slice ao l.length cap := by
  obtain ⟨ao, cap, b, off, hv, _⟩ := h
  exact ⟨ao, cap, hv⟩
structure MdR (w : World) (B : Nat) (k v : Value) (m : Pu.Md) : Prop where
  k : IntsR w B k m.kinds
  v : FnsR w B v m.funcs
  nk : m.kinds.length <= maxLen
  nf : m.funcs.length <= maxLen
theorem MdR.below {w w' : World} {B : Nat} {k v : Value} {m : Pu.Md} (h : MdR w B k v m) (hb : Below B w w') : MdR w' B k v m :=
  ⟨h.k.below hb, h.v.below hb, h.nk, h.nf⟩
theorem MdR.wide {w : World} {B B' : Nat} {k v : Value} {m : Pu.Md} (h : MdR w B k v m) (hB : B <= B') : MdR w B' k v m :=
  ⟨h.k.wide hB, h.v.wide hB, h.nk, h.nf⟩
end Go.Proofs.YtjamgmbdilkbcaaGreat

/- The walks of wire's writer: number, list. -/
namespace Go.Proofs.YtjamgmbdilkbcaaGreat
open Go.RowKit

def bv (l : List UInt8) : List Value := l.map fun c => .int .u8 (c.toNat : Int)
structure WF (p : Nat) (w w' : World) : Prop where
  size : w.heap.size <= w'.heap.size
  block : ∀ k, k < w.heap.size -> k ≠ p -> (∀ c fr, w.heap[k]? ≠ some (.cells c 5 fr)) -> w'.heap[k]? = w.heap[k]?
end Go.Proofs.YtjamgmbdilkbcaaGreat

/- The walks of wire's writer: function. -/
namespace Go.Proofs.YtjamgmbdilkbcaaGreat
open Go.RowKit

end Go.Proofs.YtjamgmbdilkbcaaGreat

/- The walks of wire's writer: module, WriteModule; coffer.Encode. -/
namespace Go.Proofs.YtjamgmbdilkbcaaGreat
open Go.RowKit

theorem wr_string {w : World} {B : Nat} {v : Value} {l : List UInt8} (h : w.ownsRow B 5 1 v l.length (bv l)) : (convert 126 9 v).run Tryz.prog w = .ok (.string ⟨l.toArray⟩) w := by
  rcases h.2 with ⟨rfl, hl⟩ | ⟨g, cap, cur, rfl, _⟩
  · have : l = [] := List.eq_nil_of_length_eq_zero hl
    subst this
    rw [run_convert_bytes_string w 126 9 5 none 0 0 Tryz.underlying126 Tryz.underlying5 Tryz.underlying9]
    rfl
  · have hc := h.cells (g := g) rfl
    refine run_convert_bytes_back w 126 9 5 ⟨g, 0, none⟩ cap l Tryz.underlying126 Tryz.underlying5 Tryz.underlying9 (fun j hj => hc j _ ?_)
    simp [bv, hj]
end Go.Proofs.YtjamgmbdilkbcaaGreat
