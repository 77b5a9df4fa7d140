/-
  hash.Sum in company: whatever the others do, it tells the sum of its text.
-/
import Derived.Test.YtjehmdhcccmihaaKHashSum
import Derived.Conc.CompanyWords
import Derived.Conc.CompanyMem
import Derived.Conc.SmallLaws
namespace Go.Proofs.Ytjehmdhcccmihaa.Pool
open Go.Conc Go.RowKit Hs
variable {main : Bool} {R : World → World → Prop} {D : World → World → Array Event → Prop}

theorem events_len_string {P : Program} {t ty : TypeId} {s : ByteArray} (h : P.underlying t = some .string) (w : World) (es : Array Event) : (Builtin.len_ #[t] ty #[.string s]).events P w es = es := by
  simp [Builtin.len_, run_underlying h]
theorem events_index_string {P : Program} {t : TypeId} {s : ByteArray} {k : IntKind} {i : Nat} (h : P.underlying t = some .string) (hi : i < s.size) (w : World) (es : Array Event) : (Instr.index t (.string s) (.int k i)).events P w es = es := by
  have e : (if (0 : Int) ≤ (i : Int) then s[(i : Int).toNat]? else none) = some s[i] := by
    rw [if_pos (by omega)]
    simp [hi]
  simp only [Instr.index, asIntOf, Sem.events_bind, Sem.run_pure, Sem.events_pure, Result.evThen_ok, run_underlying h, events_underlying, e]
theorem events_convert_ints {P : Program} {src dst : TypeId} {k : IntKind} {i : Int} (hs : (P.underlying src).isSome = true) (hd : P.underlying dst = some (.int (P.intKind dst))) (w : World) (es : Array Event) : (convert src dst (.int k i)).events P w es = es := events_convert_int src dst k i hs hd es
/-- at a round of Sum's loop -/
def SumI (R : World → World → Prop) (w₀ : World) (s : ByteArray) (a : Act) (w : World) : Prop :=
  ∃ (k acc : Nat) (v4 v8 v9 v10 v11 v12 v13 v14 v15 v16 v17 v18 : Value), k ≤ s.size ∧ acc < M64 ∧ Hid (acc = sum (s.data.toList.take k)) ∧ Since R w₀ w ∧
    a = { tmps := #[.string s, undef, .int .u64 0, .int .u64 acc, v4, .string s, .int .i64 s.size, .int .i64 k, v8, v9, v10, v11, v12, v13, v14, v15, v16, v17, v18], defers := [] }
def SumMu (s : ByteArray) (a : Act) (_ : World) : Nat := s.size - (intOf (a.tmps.getD 7 undef)).toNat

set_option maxRecDepth 100000 in
theorem sum_c (T : Terms R D) (s : ByteArray) (hs : s.size ≤ maxLen) : ∃ n, ∀ w, CallsC Try.prog main R D 13 #[.string s] n w fun v w' => v = .int .u64 (sum s.data.toList : Nat) ∧ Since R w w' := by
  unfold maxLen at hs
  co_apply Exists.intro
  intro w
  co_apply callsC_of_wpC Try.func13 (by rfl) rfl
  have hF : Since R w w := .refl w
  simp only [Try.ntmps13, List.size_toArray, List.length_cons, List.length_nil, Nat.reduceAdd, Nat.reduceSub, Array.replicate_succ, Array.replicate_zero, List.push_toArray, List.append_toArray, List.nil_append, List.cons_append]
  co_go T (Since.rely T) hF ((rw [listed_nil (by simp [go_sem, events_len_string Try.underlying9])]; exact Terms.idle T _))
  co_apply wpC_loop T (SumI R w s) (SumMu s) _ s.size
  · exact ⟨0, base, _, _, _, _, _, _, _, _, _, _, _, _, Nat.zero_le _, base_lt, (by rw [List.take_zero, sum_nil]; trivial), hF, (by rw [← sum_start]; rfl)⟩
  · simp [SumMu, intOf]
  · rintro a w' ⟨k, acc, v4, v8, v9, v10, v11, v12, v13, v14, v15, v16, v17, v18, hk, ha, H, hS, rfl⟩
    co_go T (Since.rely T) hS (co_quiet T)
    co_split T (decide ((k : Int) < (s.size : Int)))
    · intro hk0
      have hlt : k < s.size := by have := of_decide_eq_true hk0; omega
      co_go T (Since.rely T) hS ((rw [listed_nil (by simp [go_sem, events_index_string Try.underlying9 hlt, events_convert_ints (P := Try.prog) (src := 5) (dst := 33) (by kernel_rfl) (by kernel_rfl)])]; exact Terms.idle T _))
      have e : IntKind.i64.wrap ((k : Int) + 1) = ((k + 1 : Nat) : Int) := by rw [IntKind.wrap_i64]; omega
      simp only [e, step_wrap acc s[k] ha]
      refine ⟨⟨k + 1, Hs.step acc s[k], _, _, _, _, _, _, _, _, _, _, _, _, by omega, step_lt _ _, sum_step hlt H, hS, rfl⟩, ?_⟩
      simp [SumMu, intOf]
      omega
    · intro hk0
      have hlt : ¬ k < s.size := by have := of_decide_eq_false hk0; omega
      co_go T (Since.rely T) hS (co_quiet T)
      exact ⟨rfl, _, resultsC_tmp (by rfl) _, by rw [← take_all s k hlt, ← show acc = _ from H]; rfl, hS⟩
end Go.Proofs.Ytjehmdhcccmihaa.Pool
