import Derived.Test.YtjamgmbdilkbcaaGreatLotLedgers49
import Derived.Test.YtjamgmbdilkbcaaGreatLotLedgers04
import Derived.ProofKit
import Derived.OpenShut
import Derived.Deep.SlicePairs
import Derived.Lib.SmallJoins
/- A step on ledgers; ends. -/
namespace Go.Proofs.YtjamgmbdilkbcaaGreat
open Go.RowKit

namespace La
structure OpV where
  kind : Int
  a : Int
  b : Int
  k : Int
  s : ByteArray
  km : Value
  vm : Value
  m : Pu.Md
def OpV.cells (o : OpV) : Array Value := #[.int .i64 o.kind, .int .i64 o.a, .int .i64 o.b, .int .i64 o.k, .string o.s, o.km, o.vm]
theorem StOut.from {w W w' : World} {B wq : Nat} {L : List Lx} {n vi vc vf : Value} {e : Ending} (hb : Below w.heap.size w W) (h : StOut W w' B wq L n vi vc vf e) : StOut w w' B wq L n vi vc vf e := by
  obtain ⟨h1, h2, h3⟩ := h
  refine ⟨h1, h2, h3.os.trans hb.os, h3.tape.trans hb.tape, h3.output.trans hb.output, Nat.le_trans hb.size h3.size, fun k hk hn => ?_⟩
  rw [h3.block k (Nat.lt_of_lt_of_le hk hb.size) (fun hx => hn ?_), hb.block k hk]
  obtain ⟨x1, c, t, fr, x2, x3⟩ := hx
  exact ⟨x1, c, t, fr, (hb.block k hk).symm.trans x2, x3⟩
theorem StOut.same {w w' : World} {B wq : Nat} {L : List Lx} {lv rv n vi vc vf : Value} (h : WI w B wq L lv rv n vi vc vf) (hb : Below w.heap.size w w') : StOut w w' B wq L n vi vc vf (.returned (.bool true)) := ⟨rfl, ⟨L, _, _, h.below hb, by omega⟩, fr_below hb⟩
set_option maxRecDepth 100000 in
set_option maxHeartbeats 4000000 in
theorem step3_any (w : World) (B wq : Nat) (L : List Lx) (lv rv n vi vc vf : Value) (h : WI w B wq L lv rv n vi vc vf) (hL : L.length <= 10000000000000) (o : OpV) (hk : I64 o.k) (hs : o.s.size <= maxLen) (hsh : ∃ x1 n1 y1 x2 n2 y2, o.km = .slice x1 n1 y1 /\ o.vm = .slice x2 n2 y2) (hkd : o.kind ≠ 4 /\ o.kind ≠ 5 /\ o.kind ≠ 6) :
    Calls Tryz.prog 6 #[.pointer (some ⟨wq, 0, none⟩), .agg o.cells] w fun e w' => StOut w w' B wq L n vi vc vf e := by
  obtain ⟨x1, n1, y1, x2, n2, y2, hm1, hm2⟩ := hsh
  obtain ⟨kind, oa, ob, ok, s, mk, mv, m⟩ := o
  simp only [OpV.cells] at *
  subst hm1 hm2
  obtain ⟨h4, h5, h6⟩ := hkd
  have al := (Below.refl w.heap.size w).alloc (Nat.le_refl _) (.cells #[.int .i64 kind, .int .i64 oa, .int .i64 ob, .int .i64 ok, .string s, .slice x1 n1 y1, .slice x2 n2 y2] 40)
  have h0 := h.below al
  have hwl := h.lt
  obtain ⟨la, lc, hlv⟩ := owns_shape h.ol
  subst hlv
  have d0 : w.cell? ⟨wq, 0, none⟩ = some (.slice la L.length lc) := by simp [World.cell?, h.b]
  have m4 : (kind == 4) = false := by simpa using h4
  have m5 : (kind == 5) = false := by simpa using h5
  have m6 : (kind == 6) = false := by simpa using h6
  have HSAME := hid (StOut.same h al)
  by_cases h1 : kind = 1
  · have CN := hid (news_any _ B wq L _ _ n vi vc vf h0 hL s hs)
    subst h1
    clear h h0 HSAME
    go_enter Tryz.func6, Tryz.ntmps6
    go_wp2_with fail
    refine CN.out.mono ?_
    rintro e w1 hS
    have FIN := hid (hS.from al)
    obtain ⟨rfl, _, _⟩ := hS
    clear CN
    go_wp2
    go_ret
    exact FIN.out
  have m1 : (kind == 1) = false := by simpa using h1
  by_cases hL0 : L.length = 0
  · rw [hL0] at d0
    clear h h0
    go_enter Tryz.func6, Tryz.ntmps6
    go_wp2_with fail
    go_ret
    exact HSAME.out
  have CP := hid fun W => lpick_any ok L.length hk (by omega) W
  have hd0 := h0.below ((Below.refl _ _).drew)
  have ald : Below w.heap.size w (w.alloc (.cells #[.int .i64 kind, .int .i64 oa, .int .i64 ob, .int .i64 ok, .string s, .slice x1 n1 y1, .slice x2 n2 y2] 40)).drew := al.drew
  have HRUN := hid fun (k : Nat) (hk : k < L.length) => runs_any _ B wq L _ _ n vi vc vf hd0 k hk s oa ob hs
  have HAM := hid fun (k : Nat) (hk : k < L.length) => amounts_any _ B wq L _ _ n vi vc vf hd0 k hk oa ob
  have HSD := hid (StOut.same h ald)
  have HWD := hid hd0
  have hLm : ((L.length : Int) == 0) = false := by simpa using hL0
  have e3 := d0
  obtain ⟨W0, hW0⟩ : ∃ W0, W0 = w.alloc (.cells #[.int .i64 kind, .int .i64 oa, .int .i64 ob, .int .i64 ok, .string s, .slice x1 n1 y1, .slice x2 n2 y2] 40) := ⟨_, rfl⟩
  have bx : W0.heap[w.heap.size]? = some (.cells #[.int .i64 kind, .int .i64 oa, .int .i64 ob, .int .i64 ok, .string s, .slice x1 n1 y1, .slice x2 n2 y2] 40 (0, 0)) := by rw [hW0]; exact heap_alloc_new w _
  have d0' : W0.cell? ⟨wq, 0, none⟩ = some (.slice la L.length lc) := by rw [hW0]; exact (al.cell (p := ⟨wq, 0, none⟩) hwl).trans d0
  have o0 : W0.cell? ⟨w.heap.size, 0, none⟩ = some (.int .i64 kind) := by simp [World.cell?, bx]
  have o1 : W0.cell? ⟨w.heap.size, 1, none⟩ = some (.int .i64 oa) := by simp [World.cell?, bx]
  have o2 : W0.cell? ⟨w.heap.size, 2, none⟩ = some (.int .i64 ob) := by simp [World.cell?, bx]
  have o3 : W0.cell? ⟨w.heap.size, 3, none⟩ = some (.int .i64 ok) := by simp [World.cell?, bx]
  have o4 : W0.cell? ⟨w.heap.size, 4, none⟩ = some (.string s) := by simp [World.cell?, bx]
  rw [<- hW0] at HRUN HAM HSD HWD ald
  have HW0 := hid hW0
  clear h h0 hd0 hW0 bx HSAME e3
  go_enter Tryz.func6, Tryz.ntmps6
  go_wp2_with fail
  rw [<- HW0.out]
  clear d0
  go_region_held3 (fun w' => w'.cell? ⟨wq, 0, none⟩ = some (.slice la L.length lc) /\ w'.cell? ⟨w.heap.size, 3, none⟩ = some (.int .i64 ok))
    (exact ⟨d0', o3⟩)
    ((go_at_call 13; refine (CP.out _).mono ?_; rintro e w6 ⟨⟨k, hkL, rfl⟩, rfl⟩))
  have hkl : k < L.length := by omega
  by_cases h2 : kind = 2
  · have CC := hid (HRUN.out k hkl)
    subst h2
    clear HRUN HAM HSD CP
    go_wp2_with fail
    refine CC.out.mono ?_
    rintro e w1 hS
    have FIN := hid (hS.from ald)
    obtain ⟨rfl, _, _⟩ := hS
    clear CC
    go_wp2
    go_ret
    exact FIN.out
  have m2 : (kind == 2) = false := by simpa using h2
  by_cases h3 : kind = 3
  · have CC := hid (HAM.out k hkl)
    subst h3
    clear HRUN HAM HSD CP
    go_wp2_with fail
    refine CC.out.mono ?_
    rintro e w1 ⟨rfl, hb⟩
    have FIN := hid ((StOut.same HWD.out hb).from ald)
    clear CC
    go_wp2
    go_ret
    exact FIN.out
  have m3 : (kind == 3) = false := by simpa using h3
  clear HRUN HAM CP
  go_wp2_with fail
  go_ret
  exact HSD.out
set_option maxRecDepth 100000 in
set_option maxHeartbeats 4000000 in
theorem ends_any (w : World) (B wq : Nat) (L : List Lx) (lv rv n vi vc vf : Value) (h : WI w B wq L lv rv n vi vc vf) (hL : L.length <= 10000000000000) :
    Calls Tryz.prog 8 #[.pointer (some ⟨wq, 0, none⟩)] w fun e w' => e = .returned (.bool true) /\ Below w.heap.size w w' := by
  have b0 := Below.refl w.heap.size w
  have HWI := hid h
  obtain ⟨la, lc, hlv⟩ := owns_shape h.ol
  subst hlv
  clear h
  go_enter Tryz.func8, Tryz.ntmps8
  go_wp2_with fail
  go_loopw [3] (fun i wr => ∃ k : Nat, i = .int .i64 k /\ k <= L.length /\ Below w.heap.size w wr) (fun i _ => L.length - (intOf i).toNat)
  case atStart => exact ⟨0, rfl, Nat.zero_le _, b0⟩
  case round =>
    clear b0
    obtain ⟨k, rfl, hk, bk⟩ := hrel
    have Wk := HWI.out.below bk
    have d0 : wr.cell? ⟨wq, 0, none⟩ = some (.slice la L.length lc) := by simp [World.cell?, Wk.b]
    by_cases hlt : k < L.length
    · clear Wk
      go_wp2_with fail
      go_loopw [4] (fun i wr => ∃ k2 : Nat, i = .int .i64 k2 /\ k2 <= 8 /\ Below w.heap.size w wr) (fun i _ => 8 - (intOf i).toNat)
      case atStart => exact ⟨0, rfl, Nat.zero_le _, bk⟩
      case round =>
        clear bk d0
        obtain ⟨k2, rfl, hk2, bk⟩ := hrel
        by_cases hlt2 : k2 < 8
        · have hd2 : decide ((k2 : Int) < 8) = true := by simp; omega
          go_wp2_with fail
          go_loopw [5] (fun i wr => ∃ k3 : Nat, i = .int .i64 k3 /\ 1 <= k3 /\ k3 <= 7 /\ Below w.heap.size w wr) (fun i _ => 8 - (intOf i).toNat)
          case atStart => exact ⟨1, rfl, Nat.le_refl _, by omega, bk⟩
          case round =>
            clear bk
            obtain ⟨k3, rfl, hk3, hk3', bk⟩ := hrel
            by_cases hlt3 : k3 <= 6
            · have CA := hid (amounts_any wr B wq L _ _ n vi vc vf (HWI.out.below bk) k hlt k2 k3)
              go_wp2_with fail
              refine CA.out.mono ?_
              rintro e w4 ⟨rfl, hb4⟩
              have b4 := bk.trans (hb4.mono bk.size)
              clear CA bk hb4
              go_wp2
              go_roundw
              case rel => exact ⟨k3 + 1, by go_num, by omega, by omega, b4⟩
              case measure => simp [intOf]; omega
            · have hk7 : k3 = 7 := by omega
              subst hk7
              go_wp2
              go_roundw
              case rel => exact ⟨k2 + 1, by go_num, by omega, bk⟩
              case measure => simp [intOf]; omega
        · have hk8 : k2 = 8 := by omega
          subst hk8
          go_wp2
          go_roundw
          case rel => exact ⟨k + 1, by go_num, by omega, bk⟩
          case measure => simp [intOf]; omega
    · clear Wk
      go_wp2
      go_ret
      exact ⟨rfl, bk⟩
end La
end Go.Proofs.YtjamgmbdilkbcaaGreat

/- plays. -/
namespace Go.Proofs.YtjamgmbdilkbcaaGreat
open Go.RowKit

namespace La
def OpsR (w : World) (base : Nat) (v : Value) (ops : List OpV) : Prop :=
  ∃ ao cap b off, v = .slice ao ops.length cap /\ (0 < ops.length -> ao = some ⟨b, off, none⟩ /\ b < base) /\ ∀ j, j < ops.length -> ∃ o : OpV, ops[j]? = some o /\
    w.cell? ⟨b, off + j * 7, none⟩ = some (.int .i64 o.kind) /\ w.cell? ⟨b, off + j * 7 + 1, none⟩ = some (.int .i64 o.a) /\ w.cell? ⟨b, off + j * 7 + 2, none⟩ = some (.int .i64 o.b) /\ w.cell? ⟨b, off + j * 7 + 3, none⟩ = some (.int .i64 o.k) /\ w.cell? ⟨b, off + j * 7 + 4, none⟩ = some (.string o.s) /\ w.cell? ⟨b, off + j * 7 + 5, none⟩ = some o.km /\ w.cell? ⟨b, off + j * 7 + 6, none⟩ = some o.vm /\
    (∃ x1 n1 y1 x2 n2 y2, o.km = .slice x1 n1 y1 /\ o.vm = .slice x2 n2 y2)
abbrev HI := World -> Value -> Value -> Value -> Value -> Nat -> Prop
def PlOut (w w' : World) (B wq : Nat) (L : List Lx) (I : HI) (i : Nat) (e : Ending) : Prop :=
  e = .returned (.bool true) /\ (∃ L' lv rv n vi vc vf, WI w' B wq L' lv rv n vi vc vf /\ L'.length <= L.length + 1 /\ I w' n vi vc vf i) /\ Below B w w'
set_option maxRecDepth 100000 in
set_option maxHeartbeats 4000000 in
theorem plays_any (I : HI) (last : Int) (ops : List OpV) (v : Value) (w : World) (hops : OpsR w w.heap.size v ops) (hn : ops.length <= 9000000000000)
    (hI0 : I (w.alloc (.cells #[.slice none 0 0, .slice none 0 0, .int .i64 0, .slice none 0 0, .slice none 0 0, .slice none 0 0] 34)) (.int .i64 0) (.slice none 0 0) (.slice none 0 0) (.slice none 0 0) 0)
    (hIb : ∀ W W' n vi vc vf i, I W n vi vc vf i -> Below W.heap.size W W' -> I W' n vi vc vf i)
    (hIs : ∀ W n vi vc vf i, I W n vi vc vf i -> I W n vi vc vf (i + 1))
    (hstep : ∀ (i : Nat) (o : OpV) (W : World) (L : List Lx) (lv rv n vi vc vf : Value), ops[i]? = some o -> o.kind <= last -> WI W w.heap.size w.heap.size L lv rv n vi vc vf -> I W n vi vc vf i -> L.length <= 10000000000000 -> Below w.heap.size w W ->
      Calls Tryz.prog 6 #[.pointer (some ⟨w.heap.size, 0, none⟩), .agg o.cells] W fun e W' => PlOut W W' w.heap.size w.heap.size L I (i + 1) e)
    (hdry : ∀ (i : Nat) (W : World) (L : List Lx) (lv rv n vi vc vf : Value), WI W w.heap.size w.heap.size L lv rv n vi vc vf -> I W n vi vc vf i -> i <= ops.length ->
      Calls Tryz.prog 7 #[.pointer (some ⟨w.heap.size, 2, none⟩)] W fun e W' => e = .returned (.bool true) /\ Below W.heap.size W W') :
    Calls Tryz.prog 5 #[v, .int .i64 last] w fun e w' => e = .returned (.bool true) /\ Below w.heap.size w w' := by
  obtain ⟨ao, cap, b, off, rfl, q1, q2⟩ := hops
  have Q1 := hid q1
  have Q2 := hid q2
  have HIB := hid hIb
  have HIS := hid hIs
  have HST := hid hstep
  have HDR := hid hdry
  have al := (Below.refl w.heap.size w).alloc (Nat.le_refl _) (.cells #[.slice none 0 0, .slice none 0 0, .int .i64 0, .slice none 0 0, .slice none 0 0, .slice none 0 0] 34)
  have WI0 : WI (w.alloc (.cells #[.slice none 0 0, .slice none 0 0, .int .i64 0, .slice none 0 0, .slice none 0 0, .slice none 0 0] 34)) w.heap.size w.heap.size [] (.slice none 0 0) (.slice none 0 0) (.int .i64 0) (.slice none 0 0) (.slice none 0 0) (.slice none 0 0) :=
    ⟨heap_alloc_new w _, World.ownsRow_nil _ _ _ _, World.ownsRow_nil _ _ _ _, fun _ h => by simp at h, List.Pairwise.nil, fun _ h => by simp at h, Nat.le_refl _⟩
  clear q1 q2 hIb hIs hstep hdry
  go_enter Tryz.func5, Tryz.ntmps5
  go_wp2_with fail
  go_loopw [6] (fun i wr => ∃ (k : Nat) (L : List Lx) (lv rv n vi vc vf : Value), i = .int .i64 k /\ k <= ops.length /\ WI wr w.heap.size w.heap.size L lv rv n vi vc vf /\ I wr n vi vc vf k /\ L.length <= k /\ Below w.heap.size w wr) (fun i _ => ops.length - (intOf i).toNat)
  case atStart => exact ⟨0, [], _, _, _, _, _, _, rfl, Nat.zero_le _, WI0, hI0, by simp, al⟩
  case round =>
    clear WI0 hI0 al
    obtain ⟨k, L, lv, rv, n, vi, vc, vf, rfl, hk, Wk, Ik, hLk, bk⟩ := hrel
    by_cases hlt : k < ops.length
    · obtain ⟨rfl, hbb⟩ := Q1.out (by omega)
      obtain ⟨o, ho, c0, c1, c2, c3, c4, c5, c6, x1, n1, y1, x2, n2, y2, e1, e2⟩ := Q2.out k hlt
      have d0 := (bk.cell (p := ⟨b, off + k * 7, none⟩) hbb).trans c0
      by_cases hlast : last < o.kind
      · have I1 := HIS.out _ _ _ _ _ _ Ik
        clear Ik c0 c1 c2 c3 c4 c5 c6
        generalize o.kind = KD at *
        go_wp2
        go_roundw
        case rel => exact ⟨k + 1, L, lv, rv, n, vi, vc, vf, by go_num, hlt, Wk, I1, by omega, bk⟩
        case measure => simp [intOf]; omega
      · have CS := hid (HST.out k o wr L lv rv n vi vc vf ho (by omega) Wk Ik (by omega) bk)
        have d1 := (bk.cell (p := ⟨b, off + k * 7 + 1, none⟩) hbb).trans c1
        have d2 := (bk.cell (p := ⟨b, off + k * 7 + 2, none⟩) hbb).trans c2
        have d3 := (bk.cell (p := ⟨b, off + k * 7 + 3, none⟩) hbb).trans c3
        have d4 := (bk.cell (p := ⟨b, off + k * 7 + 4, none⟩) hbb).trans c4
        have d5 := (bk.cell (p := ⟨b, off + k * 7 + 5, none⟩) hbb).trans c5
        have d6 := (bk.cell (p := ⟨b, off + k * 7 + 6, none⟩) hbb).trans c6
        rw [e1] at d5
        rw [e2] at d6
        unfold OpV.cells at CS
        rw [e1, e2] at CS
        clear c0 c1 c2 c3 c4 c5 c6 e1 e2 Wk Ik ho
        obtain ⟨KD, oa, ob, ok, s, km, vm, m⟩ := o
        simp only at *
        go_wp2_with fail
        refine CS.out.mono ?_
        rintro e w1 ⟨rfl, ⟨L1, lv1, rv1, m1, vi1, vc1, vf1, W1, hL1, I1⟩, bS⟩
        have b1 := bk.trans bS
        have CD := hid (HDR.out (k + 1) w1 L1 _ _ _ _ _ _ W1 I1 (by omega))
        clear CS bk bS d0 d1 d2 d3 d4 d5 d6
        go_wp2_with fail
        refine CD.out.mono ?_
        rintro e w2 ⟨rfl, hb2⟩
        have W2 := W1.below hb2
        have I2 := HIB.out _ _ _ _ _ _ _ I1 hb2
        have b2 := b1.trans (hb2.mono b1.size)
        clear CD W1 I1 hb2 b1
        go_wp2
        go_roundw
        case rel => exact ⟨k + 1, L1, _, _, _, _, _, _, by go_num, hlt, W2, I2, by omega, b2⟩
        case measure => simp [intOf]; omega
    · have CE := hid (ends_any wr _ _ L _ _ _ _ _ _ Wk (by omega))
      clear Wk Ik
      go_wp2_with fail
      refine CE.out.mono ?_
      rintro e w1 ⟨rfl, hb1⟩
      have b1 := bk.trans (hb1.mono bk.size)
      clear CE bk hb1
      go_wp2
      go_ret
      exact ⟨rfl, b1⟩
end La
end Go.Proofs.YtjamgmbdilkbcaaGreat

/- Ledgers, walked. -/
namespace Go.Proofs.YtjamgmbdilkbcaaGreat
open Go.RowKit

namespace La
set_option maxRecDepth 100000 in
set_option maxHeartbeats 1000000 in
theorem dry0_any (q : Nat) (w : World) (lv rv n : Value) (h : w.heap[q]? = some (.cells #[lv, rv, n, .slice none 0 0, .slice none 0 0, .slice none 0 0] 34 (0, 0))) :
    Calls Tryz.prog 7 #[.pointer (some ⟨q, 2, none⟩)] w fun e w' => e = .returned (.bool true) /\ Below w.heap.size w w' := by
  have d3 : w.cell? ⟨q, 3, none⟩ = some (.slice none 0 0) := by simp [World.cell?, h]
  have d4 : w.cell? ⟨q, 4, none⟩ = some (.slice none 0 0) := by simp [World.cell?, h]
  have d5 : w.cell? ⟨q, 5, none⟩ = some (.slice none 0 0) := by simp [World.cell?, h]
  clear h
  go_enter Tryz.func7, Tryz.ntmps7
  go_wp2_with fail
  go_loopw [3] (fun i wr => i = .int .i64 0 /\ wr = w) (fun _ _ => 0)
  case atStart => exact ⟨rfl, rfl⟩
  case round =>
    obtain ⟨rfl, rfl⟩ := hrel
    go_wp2_with fail
    go_loopw [6] (fun i w2 => i = .int .i64 0 /\ w2 = wr) (fun _ _ => 0)
    case atStart => exact ⟨rfl, rfl⟩
    case round =>
      obtain ⟨rfl, rfl⟩ := hrel
      go_wp2_with fail
      go_loopw [9] (fun i w2 => i = .int .i64 0 /\ w2 = wr) (fun _ _ => 0)
      case atStart => exact ⟨rfl, rfl⟩
      case round =>
        obtain ⟨rfl, rfl⟩ := hrel
        go_wp2_with fail
        go_ret
        exact ⟨rfl, Below.refl _ _⟩
def noHI : HI := fun _ n vi vc vf _ => n = .int .i64 0 /\ vi = .slice none 0 0 /\ vc = .slice none 0 0 /\ vf = .slice none 0 0
theorem xw_ge {w : World} {B k : Nat} (h : Xw w B k) : B <= k := h.1
theorem ledgers_walk (ops : List OpV) (v : Value) (w : World) (hops : OpsR w w.heap.size v ops) (hn : ops.length <= 9000000000000) (hok : ∀ o ∈ ops, I64 o.k /\ o.s.size <= maxLen /\ ∃ x1 n1 y1 x2 n2 y2, o.km = .slice x1 n1 y1 /\ o.vm = .slice x2 n2 y2) :
    Calls Tryz.prog 3 #[v] w fun e w' => e = .returned (.bool true) /\ Below w.heap.size w w' := by
  have CP := hid (plays_any noHI 3 ops v w hops hn ⟨rfl, rfl, rfl, rfl⟩ (fun _ _ _ _ _ _ _ h _ => h) (fun _ _ _ _ _ _ h => h)
    (fun i o W L lv rv n vi vc vf ho hk hW hI hL hb => by
      obtain ⟨h1, h2, h3⟩ := hok o (List.mem_of_getElem? ho)
      refine (step3_any W _ _ L lv rv n vi vc vf hW hL o h1 h2 h3 (by omega)).mono ?_
      rintro e W' ⟨rfl, ⟨L', lv', rv', hW', hL'⟩, hF⟩
      exact ⟨rfl, ⟨L', lv', rv', n, vi, vc, vf, hW', hL', hI⟩, hF.below (fun k hk => xw_ge hk) (by have := hW.hB; have := hW.lt; omega)⟩)
    (fun i W L lv rv n vi vc vf hW hI _ => by
      obtain ⟨rfl, rfl, rfl, rfl⟩ := hI
      exact dry0_any _ W lv rv _ hW.b))
  obtain ⟨ao, cap, b, off, rfl, _, _⟩ := hops
  go_enter Tryz.func3, Tryz.ntmps3
  go_wp2_with fail
  refine CP.out.mono ?_
  rintro e w1 ⟨rfl, hb⟩
  clear CP
  go_wp2
  go_ret
  exact ⟨rfl, hb⟩
end La
end Go.Proofs.YtjamgmbdilkbcaaGreat

/- A module that came in, opened. -/
namespace Go.Proofs.YtjamgmbdilkbcaaGreat
open Go.ChangeShapes Go.WideShapes Go.ChangeAt Go.RowKit Go.Deep Go.Joins

theorem Tryz.cells3 : Tryz.prog.cellsOf 3 = 1 := by kernel_rfl
theorem Tryz.cells35 : Tryz.prog.cellsOf 35 = 1 := by kernel_rfl
theorem Tryz.cells36 : Tryz.prog.cellsOf 36 = 1 := by kernel_rfl
theorem Tryz.cells52 : Tryz.prog.cellsOf 52 = 1 := by kernel_rfl
theorem Tryz.cells56 : Tryz.prog.cellsOf 56 = 2 := by kernel_rfl
theorem Tryz.cells62 : Tryz.prog.cellsOf 62 = 4 := by kernel_rfl
theorem Tryz.cells38 : Tryz.prog.cellsOf 38 = 2 := by kernel_rfl
section
variable {H : Type} {enc : TypeId × Value -> H} {w : World} {spare : Nat -> Bool} {held : Bool}

theorem bulkAll_len (l : List (DataW H)) : l.length <= Rows.uptoBulkAll l := by
  induction l with
  | nil => simp [Rows.uptoBulkAll]
  | cons d l ih =>
    have h1 : 1 <= Rows.uptoBulk d := by
      cases d with
      | lit x => cases x <;> simp [Rows.uptoBulk]
      | nil => simp [Rows.uptoBulk]
      | ptr d => simp [Rows.uptoBulk]
      | slice a b => simp [Rows.uptoBulk]
      | agg a => simp [Rows.uptoBulk]
      | iface a b => simp [Rows.uptoBulk]
      | map a => simp [Rows.uptoBulk]
      | held a => simp [Rows.uptoBulk]
    simp only [Rows.uptoBulkAll, List.length_cons]
    omega
theorem bulk_mem {d : DataW H} {l : List (DataW H)} (h : d ∈ l) : Rows.uptoBulk d <= Rows.uptoBulkAll l := by
  induction l with
  | nil => simp at h
  | cons e l ih =>
    simp only [Rows.uptoBulkAll]
    rcases List.mem_cons.1 h with rfl | h
    · omega
    · have := ih h; omega
theorem spot_none {a : Addr} {u : Value} (hu : w.cell? (a.add 0) = some u) : ∃ b off, a = ⟨b, off, none⟩ := by
  obtain ⟨b, off, spot⟩ := a
  have hspot : spot = none := by simpa [Addr.add] using World.cell?_spot hu
  subst hspot
  exact ⟨b, off, rfl⟩
theorem read_ints {fuel : Nat} {v : Value} {x : DataW H × List MemPlace} (h : DataW.trod enc Tryz.prog w 0 spare held fuel 35 [v] = some x) :
    ∃ l, IntsR w w.heap.size v l /\ l.length <= maxLen /\ l.length <= Rows.uptoBulk x.1 := by
  rcases open_ints Tryz.underlying35 Tryz.underlying3 Tryz.cells3 h with ⟨hcs, rfl⟩ | ⟨a, len, cap, zs, hcs, _, hl, hm, hz, rfl, hcell, _⟩
  · simp only [List.cons.injEq, and_true] at hcs
    subst hcs
    exact ⟨[], ⟨none, 0, 0, 0, rfl, fun h => absurd h (by simp), fun j hj => absurd hj (by simp)⟩, by simp, by simp⟩
  · simp only [List.cons.injEq, and_true] at hcs
    subst hcs
    have hzl : len <= zs.length := by rw [hz]; split <;> omega
    have hlen : (zs.take len).length = len := by simp; omega
    refine ⟨zs.take len, ?_, by omega, ?_⟩
    · by_cases h0 : 0 < len
      · obtain ⟨b, off, rfl, hc⟩ := ints_at hcell (by omega)
        refine ⟨some ⟨b, off, none⟩, cap, b, off, by rw [hlen], fun _ => ⟨rfl, ?_⟩, fun j hj => ?_⟩
        · exact World.block_lt_of_cell? w ⟨b, off + 0, none⟩ (hc 0 (by omega))
        · rw [hc j (by omega), getD_take_lt _ _ _ _ (by omega)]
      · have : len = 0 := by omega
        subst this
        exact ⟨some a, cap, 0, 0, by simp, fun h => absurd h (by simp), fun j hj => absurd hj (by simp)⟩
    · have := bulkAll_len (lits (H := H) .i64 (zs.take len))
      simp only [Rows.uptoBulk]
      simp only [lits, List.length_map] at this ⊢
      omega
theorem read_code {fuel : Nat} {v : Value} {x : DataW H × List MemPlace} (h : DataW.trod enc Tryz.prog w 0 spare held fuel 52 [v] = some x) :
    ∃ l, CodeR w w.heap.size v l /\ l.length <= maxLen /\ l.length <= Rows.uptoBulk x.1 := by
  rcases open_slice_pairs Tryz.underlying52 Tryz.underlying56 Tryz.cells56 rfl rfl Tryz.cells3 Tryz.cells3 h with ⟨hcs, rfl⟩ | ⟨a, len, cap, m, n, V0, V1, D0, D1, P0, P1, hcs, _, hl, hm, hmm, rfl, hx⟩
  · simp only [List.cons.injEq, and_true] at hcs
    subst hcs
    exact ⟨[], ⟨none, 0, 0, 0, rfl, fun h => absurd h (by simp), fun j hj => absurd hj (by simp)⟩, by simp, by simp⟩
  · simp only [List.cons.injEq, and_true] at hcs
    subst hcs
    have hlm : len <= m := by rw [hmm]; split <;> omega
    have each : ∀ i, i < len -> ∃ y : Int × Int, w.cell? (a.add (i * 2)) = some (.int .i64 y.1) /\ w.cell? (a.add (i * 2 + 1)) = some (.int .i64 y.2) := by
      intro i hi
      obtain ⟨g0, g1, t0, t1⟩ := hx i (by omega)
      obtain ⟨n0, e0, _, _⟩ := DataW.trod_int Tryz.underlying3 t0
      obtain ⟨n1, e1, _, _⟩ := DataW.trod_int Tryz.underlying3 t1
      simp only [List.cons.injEq, and_true] at e0 e1
      rw [e0] at g0
      rw [e1] at g1
      exact ⟨(n0, n1), g0, g1⟩
    obtain ⟨F, hF⟩ := choose_lt each
    have hlen : ((List.range len).map F).length = len := by simp
    refine ⟨(List.range len).map F, ?_, by omega, ?_⟩
    · by_cases h0 : 0 < len
      · obtain ⟨b, off, rfl⟩ := spot_none (a := a) (by have := (hF 0 h0).1; simpa using this)
        refine ⟨some ⟨b, off, none⟩, cap, b, off, by rw [hlen], fun _ => ⟨rfl, ?_⟩, fun j hj => ?_⟩
        · have := World.block_lt_of_cell? w _ (hF 0 h0).1
          rw [add_plain] at this
          exact this
        · have hj' : j < len := by omega
          have := hF j hj'
          rw [add_plain, add_plain] at this
          have e : ((List.range len).map F).getD j (0, 0) = F j := by simp [List.getD_eq_getElem?_getD, hj']
          rw [e]
          exact ⟨this.1, by simpa [Nat.add_assoc] using this.2⟩
      · have : len = 0 := by omega
        subst this
        exact ⟨some a, cap, 0, 0, by simp, fun h => absurd h (by simp), fun j hj => absurd hj (by simp)⟩
    · have := bulkAll_len ((List.range len).map fun i => DataW.agg (H := H) [D0 i, D1 i])
      simp only [Rows.uptoBulk]
      simp only [List.length_map, List.length_range] at this ⊢
      omega
def FnSmall (N : Nat) (f : Pu.Fn) : Prop := f.params.length <= N /\ f.results.length <= N /\ f.locals.length <= N /\ f.code.length <= N
theorem read_fn {fuel : Nat} {c0 c1 c2 c3 : Value} {x : DataW H × List MemPlace} (h : DataW.trod enc Tryz.prog w 0 spare held fuel 62 [c0, c1, c2, c3] = some x) :
    ∃ f, FnR w w.heap.size ⟨c0, c1, c2, c3⟩ f /\ FnSmall (Rows.uptoBulk x.1) f := by
  obtain ⟨y0, y1, y2, y3, n, rfl, _, h0, h1, h2, h3⟩ := trod_struct4 Tryz.underlying62 h
  simp only [Tryz.cells35, Tryz.cells52, List.drop_zero, List.drop_succ_cons, List.take_succ_cons, List.take_zero] at h0 h1 h2 h3
  obtain ⟨l0, r0, m0, b0⟩ := read_ints h0
  obtain ⟨l1, r1, m1, b1⟩ := read_ints h1
  obtain ⟨l2, r2, m2, b2⟩ := read_ints h2
  obtain ⟨l3, r3, m3, b3⟩ := read_code h3
  refine ⟨⟨l0, l1, l2, l3⟩, ⟨r0, r1, r2, r3, m0, m1, m2, m3⟩, ?_⟩
  simp only [FnSmall, Rows.uptoBulk, Rows.uptoBulkAll]
  omega
theorem read_fns {fuel : Nat} {v : Value} {x : DataW H × List MemPlace} (h : DataW.trod enc Tryz.prog w 0 spare held fuel 36 [v] = some x) :
    ∃ fs, FnsR w w.heap.size v fs /\ fs.length <= maxLen /\ fs.length <= Rows.uptoBulk x.1 /\ ∀ f ∈ fs, FnSmall (Rows.uptoBulk x.1) f := by
  rcases open_slice Tryz.underlying36 h with ⟨hcs, rfl⟩ | ⟨a, len, cap, m, n, D, Pl, hcs, _, hl, hm, hmm, rfl, hx⟩
  · simp only [List.cons.injEq, and_true] at hcs
    subst hcs
    exact ⟨[], ⟨none, 0, 0, 0, rfl, fun h => absurd h (by simp), fun j hj => absurd hj (by simp)⟩, by simp, by simp, by simp⟩
  · simp only [List.cons.injEq, and_true] at hcs
    subst hcs
    have hlm : len <= m := by rw [hmm]; split <;> omega
    have each : ∀ i, i < len -> ∃ y : Pu.Fn, ∃ z : FV, w.cell? (a.add (i * 4)) = some z.p /\ w.cell? (a.add (i * 4 + 1)) = some z.r /\ w.cell? (a.add (i * 4 + 2)) = some z.l /\ w.cell? (a.add (i * 4 + 3)) = some z.c /\ FnR w w.heap.size z y /\ FnSmall (Rows.uptoBulk (D i)) y := by
      intro i hi
      obtain ⟨cs', h1, h2⟩ := hx i (by omega)
      rw [Tryz.cells62] at h1
      obtain ⟨_, hlen, hcell⟩ := World.cells?_some h1
      match cs', hlen with
      | [c0, c1, c2, c3], _ =>
        obtain ⟨f, hf, hs⟩ := read_fn h2
        have e0 := hcell 0 (by omega)
        have e1 := hcell 1 (by omega)
        have e2 := hcell 2 (by omega)
        have e3 := hcell 3 (by omega)
        rw [Go.Deep.add_add] at e0 e1 e2 e3
        exact ⟨f, ⟨c0, c1, c2, c3⟩, by simpa using e0, by simpa using e1, by simpa using e2, by simpa using e3, hf, hs⟩
    have : Inhabited Pu.Fn := ⟨⟨[], [], [], []⟩⟩
    obtain ⟨F, hF⟩ := choose_lt each
    have hlen : ((List.range len).map F).length = len := by simp
    refine ⟨(List.range len).map F, ?_, by omega, ?_, ?_⟩
    · by_cases h0 : 0 < len
      · obtain ⟨z, g0, _⟩ := hF 0 h0
        obtain ⟨b, off, rfl⟩ := spot_none (a := a) (by simpa using g0)
        refine ⟨some ⟨b, off, none⟩, cap, b, off, by rw [hlen], fun _ => ⟨rfl, ?_⟩, fun j hj => ?_⟩
        · have := World.block_lt_of_cell? w _ g0
          rw [add_plain] at this
          exact this
        · have hj' : j < len := by omega
          obtain ⟨z, g0, g1, g2, g3, hz, _⟩ := hF j hj'
          rw [add_plain] at g0 g1 g2 g3
          have e : ((List.range len).map F).getD j ⟨[], [], [], []⟩ = F j := by simp [List.getD_eq_getElem?_getD, hj']
          rw [e]
          exact ⟨z, g0, by simpa [Nat.add_assoc] using g1, by simpa [Nat.add_assoc] using g2, by simpa [Nat.add_assoc] using g3, hz⟩
      · have : len = 0 := by omega
        subst this
        exact ⟨some a, cap, 0, 0, by simp, fun h => absurd h (by simp), fun j hj => absurd hj (by simp)⟩
    · have := bulkAll_len ((List.range len).map D)
      simp only [Rows.uptoBulk]
      simp only [List.length_map, List.length_range] at this ⊢
      omega
    · intro f hf
      obtain ⟨i, hi, rfl⟩ := List.mem_map.1 hf
      have hi' : i < len := by simpa using hi
      obtain ⟨z, _, _, _, _, _, hs⟩ := hF i hi'
      have hb := bulk_mem (d := D i) (l := (List.range len).map D) (List.mem_map.2 ⟨i, hi, rfl⟩)
      simp only [FnSmall, Rows.uptoBulk] at hs ⊢
      omega
end
end Go.Proofs.YtjamgmbdilkbcaaGreat
