/-
  A text of so many bytes behind its sign.
-/
import Derived.Test.YtflmolhkbpicbaaDoorKRpySgn
namespace Go.Proofs.YtflmolhkbpicbaaDoor
open Go.RowKit
namespace Ry
variable {w w' : World} {pb : Nat} {s : ByteArray} {e : Int}

set_option maxRecDepth 100000 in
/-- behind an error nothing turns the error -/
theorem bytes_after (h : Rs w pb s e) (hs : s.size ≤ 65000) (he : e ≠ 0) (n : Nat) (hn : n ≤ 1099511627776) :
    Calls Tryd.prog 76 #[.pointer (some ⟨pb, 0, none⟩), .int .i64 n] w fun x w' => (∃ t s', x = .returned (.string (bat t)) ∧ Rs w' pb s' e) ∧ Only [pb] w w' := by
  refine (bytes_own h hs n hn).mono ?_
  rintro x w' ⟨h1, hk⟩
  refine ⟨?_, hk⟩
  cases hR : bytesR n s.data.toList with
  | ok t r => rw [hR] at h1; exact ⟨t, bat r, h1.1, h1.2⟩
  | err k =>
    rw [hR] at h1
    refine ⟨[], s, h1.1, ?_⟩
    have := h1.2
    rw [fl_no he] at this
    exact this
set_option maxRecDepth 100000 in
theorem num_rest {lo hi n : Int} {s u : Bytes} (h : numR lo hi s = .ok n u) : u.length ≤ s.length := by
  rw [(num_ok h).1]; simp; omega
set_option maxRecDepth 100000 in
theorem byt_err {n : Nat} {s : Bytes} {k : Nat} (h : bytesR n s = .err k) : k = 8 ∨ k = 9 := by
  rw [bytes_cut] at h
  split at h
  · injection h with h; omega
  · split at h
    · cases h
    · split at h <;> (injection h with h; omega)
/-- what a text's reader reads -/
def bulkR (s : Bytes) : Rd Rep := match numR (-1) 1099511627776 s with
  | .err e => .err e
  | .ok n u => if 0 ≤ n then mapR (fun t => ⟨4, t, 0, []⟩) (bytesR n.toNat u) else .ok ⟨5, [], 0, []⟩ u

set_option maxRecDepth 100000 in
set_option maxHeartbeats 4000000 in
theorem bulk_own (h : Rs w pb s 0) (hs : s.size ≤ 65000) (hT : Tb w) :
    Calls Tryd.prog 59 #[.pointer (some ⟨pb, 0, none⟩)] w fun x w' => SgOut x w' pb w.heap.size (bulkR s.data.toList) ∧ Only [pb] w w' := by
  have hb : Below w.heap.size w (w.alloc (.cells z4 25)) := (Below.refl _ w).alloc (Nat.le_refl _) _
  have HLN := Lib.hid (number_own (h.keep hb) hs (hT.keep hb) (-1) 1099511627776)
  have HK := Lib.hid (only_below hb [pb])
  have hlt := h.lt
  have hne : w.heap.size ∉ [pb] := by simp; omega
  have hpn : pb ∉ [w.heap.size] := by simp; omega
  have hin : ∀ x ∈ [w.heap.size], x ∈ [pb] ∨ w.heap.size ≤ x := fun x hx => Or.inr (by simp at hx; omega)
  have HX := Lib.hid (Box.new w 25 z4)
  clear h hT hb
  unfold bulkR
  cases hR : numR (-1) 1099511627776 s.data.toList with
  | err k =>
    have hk0 : (k : Int) ≠ 0 := by have := nbr_err hR; omega
    have HK0 := Lib.hid hk0
    rw [hR] at HLN
    clear hR hk0
    go_enter Tryd.func59, Tryd.ntmps59
    go_wp2_with fail
    refine HLN.out.mono ?_
    rintro x w1 ⟨⟨rfl, h1⟩, hk1⟩
    have HB := Lib.hid (box_only HX.out hk1 hne)
    have H1 := Lib.hid h1
    have HK1 := Lib.hid (HK.out.also hk1)
    clear h1 hk1
    go_wp2_with fail
    refine (bytes_after H1.out hs HK0.out 0 (by omega)).mono ?_
    rintro x w2 ⟨⟨t, s', rfl, h2⟩, hk2⟩
    have HB2 := Lib.hid (box_only HB.out hk2 hne)
    have H2 := Lib.hid h2
    have HK2 := Lib.hid (HK1.out.also hk2)
    clear h2 hk2
    go_wp2_with (refine wpList_store_only rfl 25 _ _ rfl w.heap.size _ rfl rfl _ HB2.out r_size rfl (by simp [Value.oneCell']) ?_)
    intro w9 p9 k9
    have P9 := Lib.hid p9
    have H9 := Lib.hid (H2.out.only k9 hpn)
    have HK9 := Lib.hid (HK2.out.trans k9 hin)
    clear p9 k9
    go_wp2_with fail
    refine ret_r1 Tryd.results59 rfl rfl P9.out ?_
    exact ⟨⟨⟨4, t, 0, []⟩, none, 0, rfl, by intro q; exact HK0.out (by exact_mod_cast q), s', H9.out⟩, HK9.out⟩
  | ok n u =>
    obtain ⟨_, hn1, hn2, _, _⟩ := num_ok hR
    have hul : (bat u).size ≤ 65000 := by rw [bat_size]; have := num_rest hR; rw [← Lib.size_eq] at this; omega
    rw [hR] at HLN
    clear hR
    simp only
    by_cases hneg : 0 ≤ n
    · rw [if_pos hneg]
      obtain ⟨m, rfl⟩ : ∃ m : Nat, n = m := ⟨n.toNat, by omega⟩
      have hm1 : ((m : Int) == -1) = false := by simp
      have HBE := Lib.hid (fun k (q : bytesR m u = .err k) => byt_err q)
      have hmt : (m : Int).toNat = m := by simp
      rw [hmt]
      obtain ⟨RB, hB⟩ : ∃ RB, bytesR m u = RB := ⟨_, rfl⟩
      rw [hB] at HBE ⊢
      have HB0 := Lib.hid hB
      clear hB
      go_enter Tryd.func59, Tryd.ntmps59
      go_wp2_with fail
      refine HLN.out.mono ?_
      rintro x w1 ⟨⟨rfl, h1⟩, hk1⟩
      have HB := Lib.hid (box_only HX.out hk1 hne)
      have HBY := Lib.hid (bytes_own h1 hul m (by omega))
      rw [show (bat u).data.toList = u from rfl, HB0.out] at HBY
      have HK1 := Lib.hid (HK.out.also hk1)
      clear h1 hk1
      clear HB0
      cases RB with
      | ok t r =>
        clear HBE
        go_wp2_with fail
        refine HBY.out.mono ?_
        rintro x w2 ⟨⟨rfl, h2⟩, hk2⟩
        have HB2 := Lib.hid (box_only HB.out hk2 hne)
        have H2 := Lib.hid h2
        have HK2 := Lib.hid (HK1.out.also hk2)
        clear h2 hk2
        go_wp2_with (refine wpList_store_only rfl 25 _ _ rfl w.heap.size _ rfl rfl _ HB2.out r_size rfl (by simp [Value.oneCell']) ?_)
        intro w9 p9 k9
        have P9 := Lib.hid p9
        have H9 := Lib.hid (H2.out.only k9 hpn)
        have HK9 := Lib.hid (HK2.out.trans k9 hin)
        clear p9 k9
        go_wp2_with fail
        refine ret_r1 Tryd.results59 rfl rfl P9.out ?_
        exact ⟨⟨_, none, 0, rfl, rfl, H9.out, SRow.nil _ _⟩, HK9.out⟩
      | err k =>
        have HK0 := Lib.hid (HBE.out k rfl)
        clear HBE
        go_wp2_with fail
        refine HBY.out.mono ?_
        rintro x w2 ⟨⟨rfl, h2⟩, hk2⟩
        have HB2 := Lib.hid (box_only HB.out hk2 hne)
        have H2 := Lib.hid h2
        have HK2 := Lib.hid (HK1.out.also hk2)
        clear h2 hk2
        go_wp2_with (refine wpList_store_only rfl 25 _ _ rfl w.heap.size _ rfl rfl _ HB2.out r_size rfl (by simp [Value.oneCell']) ?_)
        intro w9 p9 k9
        have P9 := Lib.hid p9
        have H9 := Lib.hid (H2.out.only k9 hpn)
        have HK9 := Lib.hid (HK2.out.trans k9 hin)
        clear p9 k9
        go_wp2_with fail
        refine ret_r1 Tryd.results59 rfl rfl P9.out ?_
        exact ⟨⟨⟨4, [], 0, []⟩, none, 0, rfl, (by have := HK0.out; omega), _, H9.out⟩, HK9.out⟩
    · rw [if_neg hneg]
      obtain rfl : n = -1 := by omega
      have hm1 : ((-1 : Int) == -1) = true := rfl
      go_enter Tryd.func59, Tryd.ntmps59
      go_wp2_with fail
      refine HLN.out.mono ?_
      rintro x w1 ⟨⟨rfl, h1⟩, hk1⟩
      have HB := Lib.hid (box_only HX.out hk1 hne)
      have H1 := Lib.hid h1
      have HK1 := Lib.hid (HK.out.also hk1)
      clear h1 hk1
      go_wp2_with (refine wpList_store_only rfl 25 _ _ rfl w.heap.size _ rfl rfl _ HB.out r_size rfl (by simp [Value.oneCell']) ?_)
      intro w9 p9 k9
      have P9 := Lib.hid p9
      have H9 := Lib.hid (H1.out.only k9 hpn)
      have HK9 := Lib.hid (HK1.out.trans k9 hin)
      clear p9 k9
      go_wp2_with fail
      refine ret_r1 Tryd.results59 rfl rfl P9.out ?_
      exact ⟨⟨_, none, 0, rfl, rfl, H9.out, SRow.nil _ _⟩, HK9.out⟩
end Ry
end Go.Proofs.YtflmolhkbpicbaaDoor
