/- The walks of wire's reader: argRange. -/
import Derived.Test.YtjamgmbdilkbcaaRead2
namespace Go.Proofs.Ytjamgmbdilkbcaa
open Go.RowKit

set_option maxHeartbeats 4000000 in
theorem argRange_any (a b c d op : Int) (w : World) (ha : 0 ≤ a ∧ a ≤ 1000) (hb : 0 ≤ b ∧ b ≤ 1000) (hc : 0 ≤ c ∧ c ≤ 1000) (hd : 0 ≤ d ∧ d ≤ 1000) (h0 : 0 ≤ op) (h1 : op ≤ 18) :
    Calls Try.prog 124 #[.agg #[.int .i64 a, .int .i64 b, .int .i64 c, .int .i64 d], .int .i64 op] w fun e w' =>
      e = .returned (.tuple #[.int .i64 (Pu.argLo op), .int .i64 (Pu.argHi a b c d op)]) ∧ w.grownBy w' none := by
  obtain ⟨ha0, ha1⟩ := ha
  obtain ⟨hb0, hb1⟩ := hb
  obtain ⟨hc0, hc1⟩ := hc
  obtain ⟨hd0, hd1⟩ := hd
  have hop : op = 0 ∨ op = 1 ∨ op = 2 ∨ op = 3 ∨ op = 4 ∨ op = 5 ∨ op = 6 ∨ op = 7 ∨ op = 8 ∨ op = 9 ∨ op = 10 ∨ op = 11 ∨ op = 12 ∨ op = 13 ∨ op = 14 ∨ op = 15 ∨ op = 16 ∨ op = 17 ∨ op = 18 := by omega
  rcases hop with rfl | rfl | rfl | rfl | rfl | rfl | rfl | rfl | rfl | rfl | rfl | rfl | rfl | rfl | rfl | rfl | rfl | rfl | rfl
  all_goals clear h0 h1
  all_goals (go_enter Try.func124, Try.ntmps124)
  all_goals go_wp2
  all_goals (try (go_quiet (fail); go_wp2))
  all_goals go_ret2
  all_goals (exact ⟨rfl, ⟨rfl, rfl, rfl, by simp, fun k hk _ => Below.heap_alloc w _ k hk⟩⟩)
end Go.Proofs.Ytjamgmbdilkbcaa
