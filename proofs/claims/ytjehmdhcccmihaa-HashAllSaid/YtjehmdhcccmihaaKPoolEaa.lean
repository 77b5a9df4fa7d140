/-
  HashAll where it starts nobody; HashAll, whatever the keys.
-/
import Derived.Test.YtjehmdhcccmihaaKPoolEar
import Derived.Test.YtjehmdhcccmihaaKPoolRna
namespace Go.Proofs.Ytjehmdhcccmihaa.Pool
open Go.Conc Go.RowKit Hs
section
variable {A : Option Addr} {cap : Nat} {ps : List ByteArray} {W : World} {x : Int}
set_option maxHeartbeats 1000000 in
theorem all_early (hT : Texts W A ps) (hlo : ps.length ≤ 60 → long (bys ps) ≤ 4611686018427387904) (h : 60 < ps.length ∨ 600 < long (bys ps)) :
    Calls Try.prog 4 #[.slice A ps.length cap, .int .u8 x] W fun e w' => e = .returned (.bool true) ∧ Below W.heap.size W w' := by
  by_cases h1 : 60 < ps.length
  · clear h hlo
    go_enter Try.func4, Try.ntmps4
    go_wp2_with fail
    refine (known_calls _).mono ?_
    rintro e w1 ⟨rfl, hb1⟩
    go_wp2
    go_ret
    exact ⟨rfl, hb1⟩
  · have h2 : 600 < long (bys ps) := by omega
    have HL := Lib.hid (long_calls A cap ps W hT (hlo (by omega)))
    clear hlo
    clear h
    go_enter Try.func4, Try.ntmps4
    go_wp2_with fail
    refine HL.out.mono ?_
    rintro e w1 ⟨rfl, rfl⟩
    go_wp2_with fail
    refine (known_calls _).mono ?_
    rintro e w1 ⟨rfl, hb1⟩
    go_wp2
    go_ret
    exact ⟨rfl, hb1⟩

/-- WHATEVER THE KEYS. -/
theorem all_good (hx0 : 0 ≤ x) (hx1 : x < 256) (hA : ∀ a, A = some a → a.block < W.heap.size) (hT : Texts W A ps) (hz : ∀ q ∈ ps, q.size ≤ 140737488355328) :
    ∃ K last o w' t', runNT Try.prog (K + 1) (solo (G (Frame.enter Try.prog 4 #[.slice A ps.length cap, .int .u8 x] .normal) []) W) #[] = (.ended o w', t') ∧
      runN Try.prog K (solo (G (Frame.enter Try.prog 4 #[.slice A ps.length cap, .int .u8 x] .normal) []) W) = .next last ∧ step Try.prog last = .ended o w' ∧ Conc.Good Try.prog (fun v w' => v = .bool true ∧ Like W w') last o w' t' := by
  by_cases h : ps.length ≤ 60 ∧ long (bys ps) ≤ 600
  · exact all_run hA hT hx0 hx1 h.1 h.2
  · have hlo : ps.length ≤ 60 → long (bys ps) ≤ 4611686018427387904 := fun h1 => by
      have := long_bound hz
      have h2 : ps.length * (140737488355328 + 1) ≤ 60 * (140737488355328 + 1) := Nat.mul_le_mul_right _ h1
      omega
    have hc := all_early (x := x) (cap := cap) hT hlo (by omega)
    refine good_of_calls (hc.mono ?_) (by kernel_rfl)
    rintro e w' ⟨rfl, hb⟩
    exact ⟨rfl, .of_below hb⟩
end
end Go.Proofs.Ytjehmdhcccmihaa.Pool
