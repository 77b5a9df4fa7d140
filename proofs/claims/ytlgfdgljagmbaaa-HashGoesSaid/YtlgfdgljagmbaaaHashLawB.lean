/-
  The walk of the law HashGoes.
-/
import Derived.Test.YtlgfdgljagmbaaaHashKnown
import Derived.OpenShut
import Derived.Laws.IdiomStrings
import Derived.Laws.BitsAllLaws
namespace Go.Proofs.Ytlgfdgljagmbaaa
open Go.RowKit
namespace Hs

theorem sum_at' (s : ByteArray) (a : Nat) (w : World) (hs : s.size ≤ maxLen) (ha : sum s.data.toList = a) : Calls Try.prog 9 #[.string s] w fun e w' => e = .returned (.int .u64 (a : Int)) ∧ w = w' := by
  have h := sum_calls s w hs
  rw [ha] at h
  exact h

theorem one_conv (w : World) (c : UInt8) :
    (convert 35 9 (.slice (some ⟨w.heap.size, 0, none⟩) 1 1)).run Try.prog (w.alloc (.cells #[Value.int IntKind.u8 (c.toNat : Int)] 5)) = .ok (.string ⟨#[c]⟩) (w.alloc (.cells #[Value.int IntKind.u8 (c.toNat : Int)] 5)) := by
  refine run_convert_bytes_back _ 35 9 5 ⟨w.heap.size, 0, none⟩ 1 [c] Try.underlying35 Try.underlying5 Try.underlying9 fun j hj => ?_
  obtain rfl : j = 0 := by simpa using hj
  rw [Addr.add_lit, cell_of_row _ _ _ _ _ _ (heap_alloc_new _ _)]
  rfl
theorem cat_one (s : ByteArray) (c : UInt8) : (s ++ ⟨#[c]⟩).data.toList = s.data.toList ++ [c] := by simp
theorem cat_size (s : ByteArray) (c : UInt8) : (s ++ ⟨#[c]⟩ : ByteArray).size = s.size + 1 := by rw [ByteArray.size_append]; rfl

theorem bytesRow_at (s : ByteArray) (cap j : Nat) (h : j < s.size) : (bytesRow s cap)[j]? = some (Value.int .u8 (s[j].toNat : Int)) := by
  have hd : j < s.data.size := h
  unfold bytesRow
  rw [Array.getElem?_append_left (by simpa using hd), Array.getElem?_map, Array.getElem?_eq_getElem hd]
  rfl
theorem bytesRow_size (s : ByteArray) (cap : Nat) : s.size ≤ (bytesRow s cap).size := by
  unfold bytesRow
  simp
theorem conv_bytes (w : World) (s : ByteArray) : ∃ (b cap : Nat) (W : World), (convert 9 35 (.string s)).run Try.prog w = .ok (.slice (some ⟨b, 0, none⟩) s.size cap) W ∧ w.heap.size ≤ b ∧ Below w.heap.size w W ∧
    (∀ j (h : j < s.size), W.cell? ⟨b, j, none⟩ = some (Value.int .u8 (s[j].toNat : Int))) ∧ (∀ j, j < s.size → W.frozen? ⟨b, j, none⟩ = false) := by
  refine ⟨w.heap.size, _, _, run_bytes_of_string w 9 35 5 s Try.underlying9 Try.underlying35 Try.underlying5, Nat.le_refl _, ?_, ?_, ?_⟩
  · exact ((Below.refl _ w).drew).alloc (Nat.le_refl _) _
  · intro j h
    exact (cell_of_row _ _ _ _ _ _ (heap_alloc_new w.drew _)).trans (bytesRow_at s _ j h)
  · intro j h
    have hb : (w.drew.alloc (.cells (bytesRow s (grownCap w s.size 0 5)) 5 ((bytesRow s (grownCap w s.size 0 5)).size, (bytesRow s (grownCap w s.size 0 5)).size + 1))).heap[w.heap.size]? = _ := heap_alloc_new w.drew _
    have hz := bytesRow_size s (grownCap w s.size 0 5)
    simp only [World.frozen?]
    rw [hb]
    simp; omega
theorem flip_byte (x : UInt8) (b : Int) : ∃ fb : UInt8, bits .xor .u8 (x.toNat : Int) (2 ^ (b % 8).toNat % 256) = (fb.toNat : Int) ∧ fb ≠ x := by
  obtain ⟨e, he, hb⟩ : ∃ e : Nat, e < 8 ∧ (b % 8).toNat = e := ⟨_, by omega, rfl⟩
  rw [hb]
  obtain ⟨m, hm0, hm1, hm⟩ : ∃ m : Nat, 0 < m ∧ m < 256 ∧ (2 : Int) ^ e % 256 = (m : Int) := by
    match e, he with
    | 0, _ => exact ⟨1, by decide, by decide, by decide⟩
    | 1, _ => exact ⟨2, by decide, by decide, by decide⟩
    | 2, _ => exact ⟨4, by decide, by decide, by decide⟩
    | 3, _ => exact ⟨8, by decide, by decide, by decide⟩
    | 4, _ => exact ⟨16, by decide, by decide, by decide⟩
    | 5, _ => exact ⟨32, by decide, by decide, by decide⟩
    | 6, _ => exact ⟨64, by decide, by decide, by decide⟩
    | 7, _ => exact ⟨128, by decide, by decide, by decide⟩
  have hx : x.toNat < 256 := x.toNat_lt
  have hlt : x.toNat ^^^ m < 256 := Nat.xor_lt_two_pow (n := 8) hx hm1
  refine ⟨UInt8.ofNat (x.toNat ^^^ m), ?_, ?_⟩
  · rw [hm, u8_xor_nat _ _ hx hm1, UInt8.toNat_ofNat', Nat.mod_eq_of_lt hlt]
  · intro h
    have h2 := congrArg UInt8.toNat h
    rw [UInt8.toNat_ofNat', Nat.mod_eq_of_lt hlt] at h2
    have h3 := congrArg (x.toNat ^^^ ·) h2
    simp only [← Nat.xor_assoc, Nat.xor_self, Nat.zero_xor] at h3
    omega
theorem conv_back (W : World) (B cap k : Nat) (s : ByteArray) (fb : UInt8) (hc : ∀ j (h : j < s.size), W.cell? ⟨B, j, none⟩ = some (Value.int .u8 (s[j].toNat : Int))) :
    (convert 35 9 (.slice (some ⟨B, 0, none⟩) s.size cap)).run Try.prog (W.setCell ⟨B, k, none⟩ (.int .u8 (fb.toNat : Int))) = .ok (.string ⟨(s.data.toList.set k fb).toArray⟩) (W.setCell ⟨B, k, none⟩ (.int .u8 (fb.toNat : Int))) := by
  have e : s.size = (s.data.toList.set k fb).length := by simp
  rw [e]
  refine run_convert_bytes_back _ 35 9 5 ⟨B, 0, none⟩ cap (s.data.toList.set k fb) Try.underlying35 Try.underlying5 Try.underlying9 fun j hj => ?_
  have hj' : j < s.size := by rw [e]; exact hj
  rw [Addr.add_lit, Nat.zero_add, List.getElem_set]
  by_cases h : k = j
  · subst h
    rw [if_pos rfl]
    exact World.cell?_setCell_same _ _ _ (hc k hj')
  · rw [if_neg h, World.cell?_setCell_other _ _ _ _ (fun e => h (congrArg Addr.off e)), hc j hj']
    rfl
theorem flip_sum (s : ByteArray) (k a : Nat) (fb : UInt8) (h : k < s.size) (hne : fb ≠ s[k]) (ha : sum s.data.toList = a) : sum (s.data.toList.set k fb) ≠ a := by
  have hk : k < s.data.toList.length := h
  have e1 : s.data.toList = s.data.toList.take k ++ s[k] :: s.data.toList.drop (k + 1) := by
    conv => lhs; rw [← List.take_append_drop k s.data.toList, ← List.getElem_cons_drop hk]
    rfl
  have e2 : s.data.toList.set k fb = s.data.toList.take k ++ fb :: s.data.toList.drop (k + 1) := List.set_eq_take_append_cons_drop.trans (by rw [if_pos hk])
  rw [← ha, e2]
  intro hh
  conv at hh => rhs; rw [e1]
  exact hne (sum_other _ _ _ _ hh)

set_option maxHeartbeats 400000 in
theorem goes_law (s : ByteArray) (c t b : Int) (hs : s.size ≤ maxLen) (hc : (Lit.int .u8 c).wf = true) (ht : (Lit.int .u8 t).wf = true) (hb : (Lit.int .u8 b).wf = true) (w : World) :
    Calls Try.prog 6 #[.string s, .int .u8 c, .int .u8 t, .int .u8 b] w fun e w' => e = .returned (.bool true) ∧ Below w.heap.size w w' := by
  obtain ⟨c1, c2⟩ := bounds_u8 hc
  obtain ⟨t1, t2⟩ := bounds_u8 ht
  obtain ⟨b1, b2⟩ := bounds_u8 hb
  clear hc ht hb
  have hm : s.size ≤ 9223372036854775807 := hs
  by_cases hl : 200 < s.size
  · go_enter Try.func6, Try.ntmps6
    go_wp2_with fail
    refine (known_calls _).mono ?_
    rintro e w5 ⟨rfl, hb5⟩
    go_wp2
    go_ret
    exact ⟨rfl, hb5⟩
  · obtain ⟨a, ha⟩ : ∃ a, sum s.data.toList = a := ⟨_, rfl⟩
    have hal := sum_lt s.data.toList
    rw [ha] at hal
    unfold M64 at hal
    have HA := Lib.hid ha
    clear ha
    obtain ⟨cb, rfl⟩ : ∃ cb : UInt8, c = (cb.toNat : Int) := ⟨UInt8.ofNat c.toNat, by rw [UInt8.toNat_ofNat']; omega⟩
    obtain ⟨st, hst⟩ : ∃ st, step a cb = st := ⟨_, rfl⟩
    have HC := Lib.hid (show sum (s ++ ⟨#[cb]⟩).data.toList = st by rw [cat_one, sum_snoc, HA.out, hst])
    have sw : IntKind.u64.wrap (bits .xor .u64 (a : Int) (cb.toNat : Int) * 1099511628211) = (st : Int) := by
      have := step_wrap a cb hal
      rw [hst] at this
      rw [← this]
      congr 3
      rw [IntKind.wrap_u64]; omega
    clear hst
    have hcz : (s ++ ⟨#[cb]⟩ : ByteArray).size ≤ maxLen := by rw [cat_size]; unfold maxLen; omega
    by_cases h0 : s.size = 0
    · go_enter Try.func6, Try.ntmps6
      go_wp2_with fail
      refine (sum_at' s a _ hs HA.out).mono ?_
      rintro e w1 ⟨rfl, rfl⟩
      go_wp2_with fail
      rw [one_conv w cb]
      go_wp2_with fail
      refine (sum_at' _ st _ hcz HC.out).mono ?_
      rintro e w1 ⟨rfl, rfl⟩
      go_wp2_with fail
      refine (known_calls _).mono ?_
      rintro e w5 ⟨rfl, hb5⟩
      go_wp2
      go_ret
      exact ⟨rfl, below_then ((Below.refl _ _).alloc (Nat.le_refl _) _) hb5⟩
    · obtain ⟨k, hk⟩ : ∃ k : Nat, t % (s.size : Int) = (k : Int) := ⟨(t % (s.size : Int)).toNat, by have := Int.emod_nonneg t (show (s.size : Int) ≠ 0 by omega); omega⟩
      have hks : k < s.size := by have := Int.emod_lt_of_pos t (show (0 : Int) < s.size by omega); omega
      go_enter Try.func6, Try.ntmps6
      go_wp2_with fail
      refine (sum_at' s a _ hs HA.out).mono ?_
      rintro e w1 ⟨rfl, rfl⟩
      go_wp2_with fail
      rw [one_conv w cb]
      go_wp2_with fail
      refine (sum_at' _ st _ hcz HC.out).mono ?_
      rintro e w1 ⟨rfl, rfl⟩
      go_wp2_with fail
      obtain ⟨B, cap, W, hW, hB, hbW, hcW, hfW⟩ := conv_bytes (w.alloc (.cells #[Value.int IntKind.u8 (cb.toNat : Int)] 5)) s
      rw [hW]
      have h1 := hcW k hks
      have h2 := hfW k hks
      have HW := Lib.hid hcW
      clear hW hcW hfW
      obtain ⟨fb, hfb, hne⟩ := flip_byte s[k] b
      obtain ⟨st2, hst2⟩ : ∃ x, sum (ByteArray.mk (s.data.toList.set k fb).toArray).data.toList = x := ⟨_, rfl⟩
      have hn : ((st2 : Int) != (a : Int)) = true := by
        have : st2 ≠ a := by rw [← hst2]; exact flip_sum s k a fb hks hne HA.out
        simp; omega
      have H2 := Lib.hid hst2
      have hz2 := Lib.hid (show (ByteArray.mk (s.data.toList.set k fb).toArray).size ≤ maxLen by show (s.data.toList.set k fb).toArray.size ≤ _; simp; exact hs)
      clear hst2 hne
      go_wp2_with fail
      rw [conv_back W B cap k s fb HW.out]
      go_wp2_with fail
      refine (sum_at' _ st2 _ hz2.out H2.out).mono ?_
      rintro e w1 ⟨rfl, rfl⟩
      go_wp2_with fail
      refine (known_calls _).mono ?_
      rintro e w5 ⟨rfl, hb5⟩
      go_wp2
      go_ret
      refine ⟨rfl, ?_⟩
      have q1 : Below w.heap.size w W := ((Below.refl _ _).alloc (Nat.le_refl _) _).trans (hbW.mono (by simp))
      have q2 := q1.setCell (p := ⟨B, k, none⟩) (by simp at hB; show w.heap.size ≤ B; omega) (.int .u8 (fb.toNat : Int))
      exact below_then q2 hb5

end Hs
end Go.Proofs.Ytlgfdgljagmbaaa
