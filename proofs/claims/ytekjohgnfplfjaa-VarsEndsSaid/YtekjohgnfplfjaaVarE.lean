/-
  A key comes; Set, Add.
-/
import Derived.Test.YtekjohgnfplfjaaVarD
namespace Go.Proofs.Ytekjohgnfplfjaa.Va
open Go.RowKit Go.Maps

section
variable {w w' : World} {own : List Nat} {v b room : Nat} {L : VL} {bl : ByteArray → Nat} {D : Dt}
theorem len_run (h : In w own v b room L bl D) (n : Nat) (ty : TypeId) : (Builtin.len_ #[48] ty #[.map (some b)]).run Try.prog (w.drewN n) = .ok (.int .i64 (L.length : Nat)) (w.drewN n) := by
  have h1 : (w.drewN n).ownsMap Try.prog 9 ptrElem b L.length D := h.map
  rw [h1.len Try.underlying48 ty, size_is h.map h.reads h.good.rise]

set_option maxRecDepth 100000 in
theorem begin_calls (h : In w own v b room L bl D) (key : ByteArray) (n now : Int) (hk : key.size ≤ maxLen) (hn : I64 n) (hh : has L key now = false) :
    Calls Try.prog 21 #[.pointer (some ⟨v, 0, none⟩), .string key, .int .i64 n, .int .i64 now] w fun e w' =>
      ∃ own', e = .returned (.int .i64 (if room ≤ (live L now).length then 5 else 0)) ∧ At w' own' v room (if room ≤ (live L now).length then L else wi (live L now) (key, n, -1)) ∧ Kept own w own' w' := by
  by_cases hf : room ≤ (live L now).length
  · rw [if_pos hf, if_pos hf]
    have hlen := h.good.len
    have e0 : live L now = L := (List.filter_sublist (l := L) (p := isLive now)).eq_of_length_le (by unfold live at hf; omega)
    have t1 : decide ((L.length : Int) ≥ (room : Int)) = true := decide_eq_true (by rw [e0] at hf; omega)
    have t2 : decide ((room : Int) ≤ (L.length : Int)) = true := decide_eq_true (by rw [e0] at hf; omega)
    have t3 : room ≤ L.length := by rw [e0] at hf; omega
    have H := Lib.hid h
    have HB : b ∈ own := h.ownB
    clear h hk hh hn hf hlen
    go_enter Try.func21, Try.ntmps21
    go_wp2_with fail
    refine (sweep_calls H.out now).mono ?_
    rintro e w1 ⟨rfl, ⟨D2, h2⟩, k⟩
    rw [e0] at h2
    have c1 := h2.roomc
    have c2 := h2.mapc
    have hl := fun n ty => len_run h2 n ty
    have H2 := Lib.hid h2
    clear h2 e0
    go_wp2_with fail
    go_quiet (fail)
    go_wp2_with fail
    go_ret
    refine ⟨own, rfl, ⟨b, bl, D2, H2.out.below (below_drewN (Below.refl _ _) _)⟩, (k.drewN _).mono fun y hy => .inl ?_, fun y hy => .inl hy⟩
    simp at hy; subst hy; exact HB
  · rw [if_neg hf, if_neg hf]
    have t1 : decide (((live L now).length : Int) ≥ (room : Int)) = false := decide_eq_false (by omega)
    have t2 : decide ((room : Int) ≤ ((live L now).length : Int)) = false := decide_eq_false (by omega)
    have t3 : (live L now).length < room := by omega
    have hroom := h.good.most
    have H := Lib.hid h
    have HB : b ∈ own := h.ownB
    have HK := Lib.hid hk
    have HN := Lib.hid hn
    have HH := Lib.hid hh
    have HF := Lib.hid hf
    clear h hk hh hn hf
    go_enter Try.func21, Try.ntmps21
    go_wp2_with fail
    refine (sweep_calls H.out now).mono ?_
    rintro e w1 ⟨rfl, ⟨D2, h2⟩, k⟩
    have c1 := h2.roomc
    have c2 := h2.mapc
    have hl := fun n ty => len_run h2 n ty
    have H2 := Lib.hid h2
    have K2 := Lib.hid k
    clear h2 k
    go_wp2_with fail
    go_quiet (fail)
    have H3 := Lib.hid (H2.out.below (below_drewN (Below.refl _ w1) nq))
    have K3 := Lib.hid (K2.out.drewN nq)
    go_wp2_with (at_mapUpdate; refine wpList_mapUpdate_in _ rfl _ _ _ 48 rfl 9 51 law Try.underlying48 ptrElem b _ D2 rfl (H3.out.map.alloc _) ?_ _ _ (keyLit key) rfl rfl (key_of HK.out) _ [] (ptrElem_mk (some w1.heap.size)) ?_; rotate_left; intro w4 ho ht)
    · go_ret
      have k : Only [b] (w1.drewN nq) w4 := ((Only.refl [b] _).alloc _).also (turned_only ht)
      have hkey : ¬ ∃ x ∈ live L now, x.1 = key := by
        rintro ⟨x, hx, rfl⟩
        have : has L x.1 now = true := has_iff.2 ⟨x, (mem_live.1 hx).1, (mem_live.1 hx).2, rfl⟩
        rw [HH.out] at this
        cases this
      have hb : w4.heap[w1.heap.size]? = some (.cells #[.int .i64 n, .int .i64 (enc (-1))] 54 (0, 0)) := by
        have h1 := ht.grown.block w1.heap.size (by simp) (by simp; have := H2.out.old b H2.out.ownB; omega)
        rw [h1]
        exact heap_alloc_new (w1.drewN nq) _
      refine ⟨w1.heap.size :: own, rfl, ⟨b, _, _, H3.out.more (n := n) (e := -1) t3 hkey HK.out HN.out (by omega) k (by simp) hb ho⟩, (K3.out.also k).mono fun y hy => .inl ?_, fun y hy => ?_⟩
      · simp at hy; subst hy; exact HB
      · rcases List.mem_cons.1 hy with rfl | hy
        · exact .inr K2.out.size
        · exact .inl hy
    · unfold maxLen; omega

theorem add1_calls (s a c : Int) (A C : Nat) (w : World) (ha : w.cell? ⟨A, 0, none⟩ = some (.int .i64 a)) (hc : w.cell? ⟨C, 0, none⟩ = some (.int .i64 c)) :
    Calls Try.prog 31 #[.int .i64 s, .pointer (some ⟨A, 0, none⟩), .pointer (some ⟨C, 0, none⟩)] w fun e w' => e = .returned (.bool (decide (a < s) == decide (0 < c))) ∧ w' = w := by
  go_enter Try.func31, Try.ntmps31
  go_wp2_with fail
  go_ret
  exact ⟨rfl, rfl⟩
def sumOr (ok : Bool) (s : Int) : Int := if ok = true then s else 0
theorem told_calls (s a c : Int) (A C : Nat) (w : World) (ha : w.cell? ⟨A, 0, none⟩ = some (.int .i64 a)) (hc : w.cell? ⟨C, 0, none⟩ = some (.int .i64 c)) :
    Calls Try.prog 30 #[.int .i64 s, .func (.func 31) #[] #[.pointer (some ⟨A, 0, none⟩), .pointer (some ⟨C, 0, none⟩)]] w fun e w' =>
      e = .returned (.tuple #[.int .i64 (sumOr (decide (a < s) == decide (0 < c)) s), .bool (decide (a < s) == decide (0 < c))]) ∧ w' = w := by
  cases hb : (decide (a < s) == decide (0 < c)) with
  | true =>
    go_enter Try.func30, Try.ntmps30
    go_wp2_with fail
    refine (add1_calls s a c A C _ ha hc).mono ?_
    rintro e w1 ⟨rfl, rfl⟩
    rw [hb]
    go_wp2_with fail
    go_ret2
    exact ⟨rfl, rfl⟩
  | false =>
    go_enter Try.func30, Try.ntmps30
    go_wp2_with fail
    refine (add1_calls s a c A C _ ha hc).mono ?_
    rintro e w1 ⟨rfl, rfl⟩
    rw [hb]
    go_wp2_with fail
    go_ret2
    exact ⟨rfl, rfl⟩
theorem sum_fits (a c : Int) (ha : I64 a) (hc : I64 c) : (decide (a < wrap64 (a + c)) == decide (0 < c)) = inR (a + c) ∧ (inR (a + c) = true → wrap64 (a + c) = a + c) := by
  unfold inR
  obtain ⟨a1, a2⟩ := ha
  obtain ⟨c1, c2⟩ := hc
  by_cases h1 : -9223372036854775808 ≤ a + c ∧ a + c < 9223372036854775808
  · have e : wrap64 (a + c) = a + c := IntWalk.wrap64_in _ (by omega)
    rw [e]
    refine ⟨?_, fun _ => rfl⟩
    rw [decide_eq_true h1]
    by_cases h2 : 0 < c
    · rw [decide_eq_true h2, decide_eq_true (show a < a + c by omega)]; rfl
    · rw [decide_eq_false h2, decide_eq_false (show ¬ a < a + c by omega)]; rfl
  · rw [decide_eq_false h1]
    refine ⟨?_, fun h => by cases h⟩
    by_cases h2 : 0 < c
    · have e : wrap64 (a + c) = a + c - 18446744073709551616 := by unfold wrap64; omega
      rw [e, decide_eq_true h2, decide_eq_false (show ¬ a < a + c - 18446744073709551616 by omega)]; rfl
    · have e : wrap64 (a + c) = a + c + 18446744073709551616 := by unfold wrap64; omega
      rw [e, decide_eq_false h2, decide_eq_true (show a < a + c + 18446744073709551616 by omega)]; rfl
theorem Add_raw (a c : Int) (w : World) :
    Calls Try.prog 25 #[.int .i64 a, .int .i64 c] w fun e w' => e = .returned (.tuple #[.int .i64 (sumOr (decide (a < wrap64 (a + c)) == decide (0 < c)) (wrap64 (a + c))), .bool (decide (a < wrap64 (a + c)) == decide (0 < c))]) ∧ Below w.heap.size w w' := by
  go_enter Try.func25, Try.ntmps25
  go_wp2_with fail
  refine (told_calls _ a c w.heap.size (w.heap.size + 1) _ ?_ ?_).mono ?_
  · simp [go_sem]
  · simp [go_sem]
  rintro e w1 ⟨rfl, rfl⟩
  go_wp2_with fail
  go_ret2
  exact ⟨rfl, ((Below.refl _ _).alloc (Nat.le_refl _) _).alloc (by simp) _⟩
theorem num_calls (a c : Int) (ha : I64 a) (hc : I64 c) (w : World) :
    Calls Try.prog 25 #[.int .i64 a, .int .i64 c] w fun e w' => e = .returned (.tuple #[.int .i64 (sumOr (inR (a + c)) (a + c)), .bool (inR (a + c))]) ∧ Below w.heap.size w w' := by
  refine (Add_raw a c w).mono ?_
  have hs := sum_fits a c ha hc
  rintro e w1 ⟨rfl, hb⟩
  refine ⟨?_, hb⟩
  rw [hs.1]
  cases h : inR (a + c) with
  | true => rw [hs.2 h]
  | false => rfl
end
end Go.Proofs.Ytekjohgnfplfjaa.Va
