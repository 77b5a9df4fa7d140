/-
  The rest of Spread, behind its call of sums: a round for each key, then the rows.
-/
import Derived.Test.YtjehmdhcccmihaaKPoolSpm
import Derived.Test.YtjehmdhcccmihaaKPoolRest
import Derived.Test.YtjehmdhcccmihaaKPoolRef
import Derived.Test.YtjehmdhcccmihaaKHashShard
import Derived.Deep.AppendLies
import Derived.Deep.RegionLaw
import Derived.Deep.Draws
namespace Go.Proofs.Ytjehmdhcccmihaa.Pool
open Go.RowKit Hs Lift

theorem only_cell {own : List Nat} {w w' : World} (h : Only own w w') {a : Addr} {v : Value} (hc : w.cell? a = some v) (hn : a.block ∉ own) : w'.cell? a = some v := by
  have hlt := World.block_lt_of_cell? w _ hc
  unfold World.cell? at hc ⊢
  rw [h.block _ hlt hn]
  exact hc
theorem step_append_key {w : World} {ops : Array Oper} {o : Oper} {a : Act} {K : Act → World → Prop} {Q : Exit → Act → World → Prop} {E : Prop} (hgd : o.guard = none) (s x : Operand)
    (ho : o.op = .call { callee := .builtin .append, args := #[s, x], argTypes := #[22, 22] })
    (B : Nat) (v : Value) (l : List ByteArray) (hs : a.eval s = v) (hown : SRow w B v l) (g : Nat) (c : ByteArray) (hx : a.eval x = .slice (some ⟨g, 0, none⟩) 1 1)
    (hg : w.heap[g]? = some (.cells #[.string c] 9 (0, 0))) (hn : l.length ≤ 1048576) (hB : B ≤ w.heap.size)
    (hK : ∀ g' cap w', SRow w' B (.slice (some ⟨g', 0, none⟩) (l ++ [c]).length cap) (l ++ [c]) → w.grownBy w' v.ownBlock → (v.ownBlock = some g' ∨ g' = w.heap.size) → K (a.put o.dst (.slice (some ⟨g', 0, none⟩) (l.length + 1) cap)) w') :
    if Region.wanted o (yielded ops a.tmps) = true then Oper.wp Try.prog o a w K Q else E := by
  obtain ⟨i0, hi, hz0, hz1, hz2⟩ := str_parts
  unfold SRow at hown
  refine step_append_lies w hgd s x 22 ho B 9 i0 _ 1 16 Try.underlying22 hi hz0 hz1 hz2 rfl (by decide) v l.length _ hs hown ⟨g, 0, none⟩ 1 1 [.string c] hx rfl ?_ ?_ (by decide) (by unfold maxLen; omega) (by omega) hB _ rfl (fun g' cap w' h2 h3 h4 _ => ?_)
  · intro j u hj
    have : ((⟨g, 0, none⟩ : Addr).add j) = ⟨g, j, none⟩ := by unfold Addr.add; split <;> simp_all
    rw [this, cell_of_row _ _ _ _ _ _ hg]
    simpa using hj
  · intro u hu; simp at hu; subst hu; rfl
  · refine hK g' cap w' ?_ h3 h4
    unfold SRow
    rw [List.map_append, List.length_append]
    exact h2
theorem add_block (a : Addr) (j : Nat) : (a.add j).block = a.block := by unfold Addr.add; split <;> rfl
theorem add_zero_blk (g k : Nat) : ((⟨g, 0, none⟩ : Addr).add k) = ⟨g, k, none⟩ := by unfold Addr.add; split <;> simp_all
theorem SpL.len_le {w wr : World} {g N j k : Nat} {f : ByteArray → Nat} {ps : List ByteArray} {L : List Cm} (h : SpL w wr g N f ps j L) (hk : k < L.length) : L[k].1.length ≤ ps.length := by
  have hkN : k < N := by have := h.len; omega
  have h8 := spreadR_get (n := N) (f := f) (ps := ps.take j) hkN
  rw [← h.eq, List.getElem?_map, List.getElem?_eq_getElem hk] at h8
  have h9 : L[k].1 = (ps.take j).filter fun q => f q = k := by simpa using h8
  rw [h9]
  exact Nat.le_trans (List.length_filter_le _ _) (by rw [List.length_take]; omega)
theorem SpL.at_ {w wr : World} {g N j k : Nat} {f : ByteArray → Nat} {ps : List ByteArray} {L : List Cm} (h : SpL w wr g N f ps j L) (hk : k < L.length) : wr.cell? ⟨g, k, none⟩ = some (.slice L[k].2.1 L[k].1.length L[k].2.2) ∧ wr.frozen? ⟨g, k, none⟩ = false := by
  have hr := h.row
  unfold RRow at hr
  rw [h.len] at hr
  have h1 := World.ownsRow.cells hr (g := g) rfl k (Cm.v L[k]) (by simp [hk])
  rw [add_zero_blk] at h1
  exact ⟨h1, World.ownsRow.frozenAt hr k⟩
theorem SpL.mid {w w1 w2 : World} {g N j k : Nat} {f : ByteArray → Nat} {ps : List ByteArray} {L : List Cm} (h : SpL w w1 g N f ps j L) (hk : k < L.length) (hg : w1.grownBy w2 (Cm.v L[k]).ownBlock) : w2.cell? ⟨g, k, none⟩ = some (.slice L[k].2.1 L[k].1.length L[k].2.2) ∧ w2.frozen? ⟨g, k, none⟩ = false := by
  have hr := World.ownsRow.kept h.row hg (own_ne h.row (h.rows _ (List.getElem_mem hk)) (by decide))
  rw [h.len] at hr
  have h1 := World.ownsRow.cells hr (g := g) rfl k (Cm.v L[k]) (by simp [hk])
  rw [add_zero_blk] at h1
  exact ⟨h1, World.ownsRow.frozenAt hr k⟩
/-- a key's shard of N -/
def shardN (N : Nat) (p : ByteArray) : Nat := sum p.data.toList % N
noncomputable def sprParts : Array Oper × List Code := match Try.f9.body with
  | some (.seq _ (.seq _ (.seq (.seq (.region _ ops _) c1) c2))) => (ops, [c1, c2])
  | _ => (#[], [])

set_option maxHeartbeats 4000000 in
set_option maxRecDepth 100000 in
theorem spread_rest (A : Option Addr) (cap : Nat) (ps : List ByteArray) (n : Int) (g m cm N : Nat) (w : World) (h1 : 1 ≤ N) (h64 : N ≤ 64) (hA : Texts w A ps) (hAg : ∀ a, A = some a → a.block ≠ g) (hl : ps.length ≤ 1048576) (hmg : m ≠ g)
    (hm : ∀ i (h : i < ps.length), w.cell? ⟨m, i, none⟩ = some (.int .u64 (sum ps[i].data.toList : Nat))) (hrow : RRow w g (.slice (some ⟨g, 0, none⟩) N N) (List.replicate N ([], none, 0))) :
    wpList Try.prog sprParts.1 (restPost Try.prog Try.f9 (fun e w' => ∃ L, e = .returned (.slice (some ⟨g, 0, none⟩) N N) ∧ SpL w w' g N (shardN N) ps ps.length L) sprParts.2) (sprParts.1.toList.drop 2)
      { tmps := #[.slice A ps.length cap, .int .i64 n, undef, undef, .slice none 0 0, .slice (some ⟨g, 0, none⟩) N N, undef, undef, undef, .int .i64 n, .int .i64 N, .slice (some ⟨g, 0, none⟩) N N, .slice A ps.length cap, .slice (some ⟨m, 0, none⟩) ps.length cm, undef, undef, undef, undef, undef, undef, undef, undef, undef, undef, undef, undef, undef, undef, undef, undef, undef, undef, undef, undef, undef, undef, undef, undef, undef], defers := [] } w := by
  have HA := Lib.hid hA
  have HAg := Lib.hid hAg
  have HM := Lib.hid hm
  have H0 : Hid (SpL w w g N (shardN N) ps 0 (List.replicate N ([], none, 0))) := Lib.hid ⟨hrow, by simp, by rw [List.take_zero, spreadR_nil]; simp, fun x hx => by
    obtain rfl := (List.mem_replicate.1 hx).2
    exact SRow.nil _ _, fun i k hi hk b _ e => by simp [Cm.v, Value.ownBlock] at e, Only.refl _ _⟩
  clear hA hAg hm hrow
  obtain ⟨F, hF⟩ : ∃ F, F = Try.f9 := ⟨_, rfl⟩
  rw [← hF]
  have HF := Lib.hid hF
  clear hF
  simp only [sprParts, Try.f9]
  simp only [List.drop, List.drop_succ_cons, List.drop_zero]
  go_wp2_with fail
  show Code.wp Try.prog _ (restPost Try.prog F _ _) _ _
  go_wp2_with fail
  go_loopw [15] (fun i wr => ∃ (j : Nat) (L : List Cm), j ≤ ps.length ∧ i = .int .i64 j ∧ Hid (SpL w wr g N (shardN N) ps j L)) (fun i _ => ps.length - (intOf i).toNat)
  case atStart => exact ⟨0, _, Nat.zero_le _, rfl, H0⟩
  case round =>
    obtain ⟨j, L, hj, rfl, H⟩ := hrel
    by_cases hlt : j < ps.length
    · obtain ⟨a, rfl, e0⟩ := HA.out.at_ hlt
      have hag := HAg.out a rfl
      have m0 := only_cell H.out.only (HM.out j hlt) (by simpa using hmg)
      have e1 := only_cell H.out.only e0 (by simpa [add_block] using hag)
      have i1 : (j : Int) < (ps.length : Int) := by omega
      obtain ⟨p, hp⟩ : ∃ p, p = ps[j] := ⟨_, rfl⟩
      rw [← hp] at m0 e1
      have HP := Lib.hid hp
      obtain ⟨k, hk⟩ : ∃ k, k = shardN N p := ⟨_, rfl⟩
      have hkN : k < N := by rw [hk]; exact Nat.mod_lt _ (by omega)
      have hkL : k < L.length := by rw [H.out.len]; exact hkN
      have i2 : (k : Int) < (N : Int) := by omega
      obtain ⟨r0, f0⟩ := H.out.at_ hkL
      have HK := Lib.hid hk
      have SC := fun w => shard_in (sum p.data.toList) N w (sum_lt _) h1 h64
      rw [show sum p.data.toList % N = k from hk.symm] at SC
      have hll := H.out.len_le hkL
      have hbw : Below wr.heap.size wr ((wr.alloc (.cells #[.string p] 9 (0, 0))).drew) := ((Below.refl _ wr).alloc (Nat.le_refl _) _).drew
      have HBW := Lib.hid hbw
      have r1 := ((H.out.below ((Below.refl _ wr).alloc (Nat.le_refl _) (.cells #[.string p] 9 (0, 0)))).at_ hkL).1
      have r2 := ((H.out.below hbw).at_ hkL).1
      clear e0 hk hp hag hbw
      go_wp2_with fail
      refine (SC _).mono ?_
      rintro e w1 ⟨rfl, rfl⟩
      go_wp2_with fail
      go_region_law (refine step_append_key (by rfl) _ _ (by rfl) w.heap.size (Cm.v L[k]) L[k].1 (by rfl) ((H.out.rows _ (List.getElem_mem hkL)).below HBW.out) wr.heap.size p (by rfl) (heap_alloc_new wr _) (by omega) (Nat.le_trans H.out.only.size HBW.out.size) ?_; intro g' cap' w2 hr hg2 ho; obtain ⟨d0, df⟩ := SpL.mid (H.out.below HBW.out) hkL hg2; have h2 := SpL.step (H.out.below HBW.out) hlt HP.out.symm HK.out.symm hkL hr hg2 ho; rw [show (L[k].1 ++ [p]).length = L[k].1.length + 1 by simp] at h2; have H2 := Lib.hid h2; clear hr hg2 ho h2)
      all_goals
        go_wp2_with fail
        go_roundw
        case rel => exact ⟨j + 1, _, by omega, by go_num, H2⟩
        case measure => simp [intOf]; omega
    · have hje : j = ps.length := by omega
      subst hje
      have HE := Lib.hid H.out
      go_wp2_with fail
      show Code.wp Try.prog _ (restPost Try.prog F _ _) _ _
      rw [HF.out]
      go_wp2_with fail
      go_ret
      exact ⟨L, rfl, HE.out⟩
end Go.Proofs.Ytjehmdhcccmihaa.Pool
