/-
  The document's Long and hash.count, beside leavers.
-/
import Derived.Test.YtjehmdhcccmihaaKHashLong
import Derived.Test.YtjehmdhcccmihaaKHashShard
import Derived.Test.YtjehmdhcccmihaaKPoolCfg
namespace Go.Proofs.Ytjehmdhcccmihaa.Pool
open Go.Conc Go.RowKit Hs
section
variable {Shun : Loc → Prop} {B C G : Nat}
/-- It touches no cell of the blocks C and G; it is no release at G. -/
def NtA (C G : Nat) (x : MemAct) : Prop := (∀ y a, x.touch? = some y → y.loc = .cell a → a.block ≠ C ∧ a.block ≠ G) ∧ x ≠ .mark (.release (Go.ConcR.stA G))
/-- What is listed: as beside leavers, and no cell of the blocks C and G; no release at G. -/
def EvX (Shun : Loc → Prop) (B C G : Nat) (e : Event) : Prop := EvL Shun B e ∧ NtA C G (.ofEvent e)
theorem evX_cell (a : Addr) (wr : Bool) (hS : ¬ Shun (.cell a)) (hB : a.block < B) (h1 : a.block ≠ C) (h2 : a.block ≠ G) : EvX Shun B C G ⟨.cell a, wr, false⟩ :=
  ⟨evL_cell a wr hS hB, by rw [ofEvent_cell0]; exact ⟨fun y b hy hb => by simp only [MemAct.touch?, Option.some.injEq] at hy; subst hy; cases hb; exact ⟨h1, h2⟩, by simp⟩⟩
abbrev DB (Shun : Loc → Prop) (B C G : Nat) : World → World → Array Event → Prop := DE (EvX Shun B C G)
theorem termsB : Terms AtRel (DB Shun B C G) := ⟨atRel_trans, fun w e he => by simp at he⟩
theorem texts_at {w w' : World} {A : Option Addr} {ps : List ByteArray} (h : Texts w A ps) (r : AtRel w w') : Texts w' A ps := by
  obtain ⟨d, rfl⟩ := r
  exact h

def LongI (A : Option Addr) (cap : Nat) (ps : List ByteArray) (w₀ : World) (a : Act) (w : World) : Prop :=
  ∃ (k m : Nat) (v5 v6 v7 v8 v9 v10 v11 v12 v13 v14 v15 v16 v17 v18 v19 : Value), k ≤ ps.length ∧ m ≤ 4611686018427387904 ∧ Hid (m = long (bys (ps.take k))) ∧ (Texts w A ps ∧ Since AtRel w₀ w) ∧
    a = { tmps := #[.slice A ps.length cap, undef, .int .i64 0, .int .i64 m, .int .i64 k, v5, v6, v7, v8, v9, v10, v11, v12, v13, v14, v15, v16, v17, v18, v19], defers := [] }
def LongMu (ps : List ByteArray) (a : Act) (_ : World) : Nat := ps.length - (intOf (a.tmps.getD 4 undef)).toNat
theorem ts_rely {A : Option Addr} {ps : List ByteArray} {w₀ w w₁ : World} (h : Texts w A ps ∧ Since AtRel w₀ w) (r : AtRel w w₁) : Texts w₁ A ps ∧ Since AtRel w₀ w₁ := ⟨texts_at h.1 r, Since.rely (termsB (Shun := fun _ => False) (B := 0) (C := 0) (G := 0)) h.2 r⟩

set_option maxRecDepth 100000 in
set_option maxHeartbeats 4000000 in
theorem long_c (A : Option Addr) (cap : Nat) (ps : List ByteArray) (hl : long (bys ps) ≤ 4611686018427387904) (hS : ∀ (a : Addr) (k : Nat), A = some a → ¬ Shun (.cell (a.add k))) (hB : ∀ a, A = some a → a.block < B ∧ a.block ≠ C ∧ a.block ≠ G) : ∃ n, ∀ w, Texts w A ps →
    CallsC Try.prog true AtRel (DB Shun B C G) 6 #[.slice A ps.length cap] n w fun v w' => v = .int .i64 (long (bys ps) : Nat) ∧ Since AtRel w w' := by
  have hn := long_ge ps
  have T : Terms AtRel (DB Shun B C G) := termsB
  co_apply Exists.intro
  intro w hA
  co_apply callsC_of_wpC Try.func6 (by rfl) rfl
  have hF : Texts w A ps ∧ Since AtRel w w := ⟨hA, .refl w⟩
  simp only [Try.ntmps6, List.size_toArray, List.length_cons, List.length_nil, Nat.reduceAdd, Nat.reduceSub, Array.replicate_succ, Array.replicate_zero, List.push_toArray, List.append_toArray, List.nil_append, List.cons_append]
  co_go T ts_rely hF (co_quiet T)
  co_apply wpC_loop T (LongI A cap ps w) (LongMu ps) _ ps.length
  · exact ⟨0, 0, _, _, _, _, _, _, _, _, _, _, _, _, _, _, _, Nat.zero_le _, by omega, by simp [Hid, bys, long], hF, rfl⟩
  · simp [LongMu, intOf]
  · rintro a w' ⟨k, m, v5, v6, v7, v8, v9, v10, v11, v12, v13, v14, v15, v16, v17, v18, v19, hk, hm, H, hS', rfl⟩
    co_go T ts_rely hS' (co_quiet T)
    co_split T (decide ((k : Int) < (ps.length : Int)))
    · intro hk0
      have hlt : k < ps.length := by have := of_decide_eq_true hk0; omega
      obtain ⟨ad, hAe, _⟩ := hS'.1.at_ hlt
      have hkey : ∀ w, Texts w A ps → w.cell? (ad.add k) = some (.string ps[k]) := fun w h => by
        obtain ⟨b, e, hc⟩ := h.at_ hlt
        rw [hAe] at e
        cases e
        exact hc
      rw [hAe]
      have e1 := Lib.hid (long_take ps k hlt)
      have e2 := long_take_le ps (k + 1)
      have e3 : m + 1 + ps[k].size ≤ 4611686018427387904 := by have := e1.out; have h2 : m = _ := H; omega
      clear e2
      have hlt' : (k : Int) < (ps.length : Int) := by omega
      have hi0 : (0 : Int) ≤ (k : Int) := by omega
      co_go T ts_rely hS' ((rw [listed_nil (by simp [go_sem, *])]; exact Terms.idle T _))
      co_opw ts_rely hS' (have hc := hkey _ hS'.1) (co_evs (exact evX_cell _ _ (hS _ _ hAe) (by rw [add_blk]; exact (hB _ hAe).1) (by rw [add_blk]; exact (hB _ hAe).2.1) (by rw [add_blk]; exact (hB _ hAe).2.2)))
      co_go T ts_rely hS' ((rw [listed_nil (by simp [go_sem, events_len_string Try.underlying9, *])]; exact Terms.idle T _))
      have w1 : IntKind.i64.wrap ((m : Int) + 1) = ((m + 1 : Nat) : Int) := by rw [IntKind.wrap_i64]; omega
      have w2 : IntKind.i64.wrap (((m + 1 : Nat) : Int) + (ps[k].size : Int)) = ((m + 1 + ps[k].size : Nat) : Int) := by rw [IntKind.wrap_i64]; omega
      have w3 : IntKind.i64.wrap ((k : Int) + 1) = ((k + 1 : Nat) : Int) := by rw [IntKind.wrap_i64]; omega
      simp only [w1, w2, w3, ← hAe]
      refine ⟨⟨k + 1, m + 1 + ps[k].size, _, _, _, _, _, _, _, _, _, _, _, _, _, _, _, by omega, e3, by have h2 : m = _ := H; show _ = _; rw [e1.out, ← h2]; omega, hS', rfl⟩, ?_⟩
      simp [LongMu, intOf]
      omega
    · intro hk0
      have hlt : ¬ k < ps.length := by have := of_decide_eq_false hk0; omega
      co_go T ts_rely hS' (co_quiet T)
      exact ⟨rfl, _, resultsC_tmp (by rfl) _, by rw [← show m = _ from (show m = long (bys ps) by have h2 : m = _ := H; rw [h2, List.take_of_length_le (by omega)])]; rfl, hS'.2⟩

theorem events_min_ints {ts : Array TypeId} {ty : TypeId} {k : IntKind} {x y : Int} (w : World) (es : Array Event) : (Builtin.min_ ts ty #[.int k x, .int k y]).events Try.prog w es = es := by simp [Builtin.min_, Builtin.min2]
theorem events_max_ints {ts : Array TypeId} {ty : TypeId} {k : IntKind} {x y : Int} (w : World) (es : Array Event) : (Builtin.max_ ts ty #[.int k x, .int k y]).events Try.prog w es = es := by simp [Builtin.max_, Builtin.max2]
theorem clip_eq (n : Int) : min (max n 1) 64 = ((clip n : Nat) : Int) := by
  unfold clip
  split
  · omega
  · split <;> omega
set_option maxRecDepth 100000 in
theorem count_c {main : Bool} {R : World → World → Prop} {D : World → World → Array Event → Prop} (T : Terms R D) : ∃ n, ∀ (x : Int) (w : World), CallsC Try.prog main R D 15 #[.int .i64 x] n w fun v w' => v = .int .i64 (clip x : Nat) ∧ Since R w w' := by
  co_apply Exists.intro
  intro x w
  co_apply callsC_of_wpC Try.func15 (by rfl) rfl
  have hF : Since R w w := .refl w
  simp only [Try.ntmps15, List.size_toArray, List.length_cons, List.length_nil, Nat.reduceAdd, Nat.reduceSub, Array.replicate_succ, Array.replicate_zero, List.push_toArray, List.append_toArray, List.nil_append, List.cons_append]
  co_go T (Since.rely T) hF ((rw [listed_nil (by simp [go_sem, events_min_ints, events_max_ints])]; exact Terms.idle T _))
  refine ⟨rfl, _, resultsC_tmp (by rfl) _, ?_, hF⟩
  have e := clip_eq x
  rw [← e]
  first | rfl | (refine val_int ?_; omega) | (refine val_int ?_; simp only [max_def, min_def]; split <;> split <;> omega)
end
end Go.Proofs.Ytjehmdhcccmihaa.Pool
