/-
  HashSpreads where it starts nobody; a lone contract as a good run.
-/
import Derived.Test.YtjehmdhcccmihaaKHashLong
import Derived.Test.YtjehmdhcccmihaaKPoolRnz
import Derived.LoneHanded
import Derived.Handed
import Derived.CallAlone
namespace Go.Proofs.Ytjehmdhcccmihaa.Pool
open Go.Conc Go.RowKit Hs

theorem good_of_calls {P : Program} {f : FuncId} {args : Array Value} {w : World} {R : Value → World → Prop} (h : Calls P f args w fun | .returned v, w' => R v w' | _, _ => False) (hi : P.inits.idxOf? f = none) :
    ∃ K last o w' t', runNT P (K + 1) (solo (G (Frame.enter P f args .normal) []) w) #[] = (.ended o w', t') ∧ runN P K (solo (G (Frame.enter P f args .normal) []) w) = .next last ∧ step P last = .ended o w' ∧ Conc.Good P R last o w' t' := by
  obtain ⟨n, v, w', fr, hn, hend, hp⟩ := h.done_lone hi
  have h1 : runNT P (n + 1) (lone (Frame.enter P f args .normal) [] w) #[] = (.ended (.done v) w', (runNT P (n + 1) (lone (Frame.enter P f args .normal) [] w) #[]).2) := by
    have := runNT_fst P (n + 1) (lone (Frame.enter P f args .normal) [] w) #[]
    rw [hend] at this
    exact Prod.ext this rfl
  have ha := alone_of_lone (w' := w') hn
  refine ⟨n, lone fr [] w', .done v, w', _, h1, hn, step_of_runs hn hend, v, rfl, hp, fun said => (by
    have hb := allBy_of_lone P n _ _ hn (by simp [lone]) rfl
    rintro ⟨i, j, hij, ⟨x, y, hx, hy, _⟩, hno, _⟩
    exact hno (.single (.inl ⟨hij, 0, hb i x hx, hb j y hy⟩))), ha.2.1, ⟨fun g hg => by simp [lone] at hg, rfl⟩, ha.2.2⟩

section
variable {A : Option Addr} {cap : Nat} {ps : List ByteArray} {W : World} {n : Int}
set_option maxHeartbeats 1000000 in
theorem spreads_early (hT : Texts W A ps) (hlo : ps.length ≤ 100 → long (bys ps) ≤ 4611686018427387904) (h : 100 < ps.length ∨ 1000 < long (bys ps)) :
    Calls Try.prog 3 #[.slice A ps.length cap, .int .i64 n] W fun e w' => e = .returned (.bool true) ∧ Below W.heap.size W w' := by
  by_cases h1 : 100 < ps.length
  · clear h hlo
    go_enter Try.func3, Try.ntmps3
    go_wp2_with fail
    refine (known_calls _).mono ?_
    rintro e w1 ⟨rfl, hb1⟩
    go_wp2
    go_ret
    exact ⟨rfl, hb1⟩
  · have h2 : 1000 < long (bys ps) := by omega
    have HL := Lib.hid (long_calls A cap ps W hT (hlo (by omega)))
    clear hlo
    clear h
    go_enter Try.func3, Try.ntmps3
    go_wp2_with fail
    refine HL.out.mono ?_
    rintro e w1 ⟨rfl, rfl⟩
    go_wp2_with fail
    refine (known_calls _).mono ?_
    rintro e w1 ⟨rfl, hb1⟩
    go_wp2
    go_ret
    exact ⟨rfl, hb1⟩

theorem long_bound {B : Nat} : ∀ {ps : List ByteArray}, (∀ q ∈ ps, q.size ≤ B) → long (bys ps) ≤ ps.length * (B + 1)
  | [], _ => by simp [long, bys]
  | q :: ps, h => by
    have h1 := long_bound (ps := ps) fun x hx => h x (List.mem_cons_of_mem _ hx)
    have h2 := h q (List.mem_cons_self ..)
    have e : long (bys (q :: ps)) = 1 + q.size + long (bys ps) := by simp [long, bys]
    rw [e, List.length_cons, Nat.succ_mul]
    omega
theorem Like.of_below {W w : World} (h : Below W.heap.size W w) : Like W w := ⟨h.os, h.output, h.size, h.block⟩
/-- WHATEVER THE KEYS. -/
theorem spreads_good (hA : ∀ a, A = some a → a.block < W.heap.size) (hT : Texts W A ps) (hz : ∀ q ∈ ps, q.size ≤ 140737488355328) :
    ∃ K last o w' t', runNT Try.prog (K + 1) (solo (G (Frame.enter Try.prog 3 #[.slice A ps.length cap, .int .i64 n] .normal) []) W) #[] = (.ended o w', t') ∧
      runN Try.prog K (solo (G (Frame.enter Try.prog 3 #[.slice A ps.length cap, .int .i64 n] .normal) []) W) = .next last ∧ step Try.prog last = .ended o w' ∧ Conc.Good Try.prog (fun v w' => v = .bool true ∧ Like W w') last o w' t' := by
  by_cases h : ps.length ≤ 100 ∧ long (bys ps) ≤ 1000
  · exact spreads_run hA hT h.1 h.2
  · have hlo : ps.length ≤ 100 → long (bys ps) ≤ 4611686018427387904 := fun h1 => by
      have := long_bound hz
      have h2 : ps.length * (140737488355328 + 1) ≤ 100 * (140737488355328 + 1) := Nat.mul_le_mul_right _ h1
      omega
    have hc := spreads_early (n := n) (cap := cap) hT hlo (by omega)
    refine good_of_calls (hc.mono ?_) (by kernel_rfl)
    rintro e w' ⟨rfl, hb⟩
    exact ⟨rfl, .of_below hb⟩
end
end Go.Proofs.Ytjehmdhcccmihaa.Pool
