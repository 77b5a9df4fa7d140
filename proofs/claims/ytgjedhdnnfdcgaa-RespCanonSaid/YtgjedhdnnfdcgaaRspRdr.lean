/-
  A reader: made, fed, asked.
-/
import Derived.Test.YtgjedhdnnfdcgaaRspFdd
namespace Go.Proofs.Ytgjedhdnnfdcgaa.Rp
open Go.RowKit Go.Shelf

/-- a reader at v that was fed bs, and its blocks -/
def AtR (w : World) (own : List Nat) (v : Nat) (bs : Bytes) : Prop :=
  ∃ pb own2, own = v :: own2 ∧ Box w v 56 #[.pointer (some ⟨pb, 0, none⟩)] ∧ PT w pb own2 (run .star bs).1
theorem AtR.keep {w w' : World} {own o2 : List Nat} {v : Nat} {bs : Bytes} (h : AtR w own v bs) (k : Only o2 w w') (hn : ∀ x ∈ own, x ∉ o2) : AtR w' own v bs := by
  obtain ⟨pb, own2, rfl, hb, hp⟩ := h
  exact ⟨pb, own2, rfl, hb.only k (hn _ (by simp)), hp.keep k (fun x hx => hn x (by simp [hx]))⟩
theorem AtR.good {w : World} {own : List Nat} {v : Nat} {bs : Bytes} (h : AtR w own v bs) : ∀ x ∈ own, x < w.heap.size := by
  obtain ⟨pb, own2, rfl, hb, hp⟩ := h
  intro x hx
  rcases List.mem_cons.1 hx with rfl | hx
  · exact hb.lt
  · exact hp.lt x hx
theorem got_le (bs : Bytes) : (got (run .star bs).1).length ≤ bs.length := by
  obtain ⟨_, _, rest, h3, h4⟩ := run_ok (s := .star) trivial bs
  have := congrArg List.length h3
  rw [List.length_append, List.length_append] at this
  rcases h4 with h4 | h4
  · rw [h4]; simp [got]
  · rw [← h4]; simp [got] at this; omega
theorem left_got (bs : Bytes) : leftI bs = (got (run .star bs).1).length := by
  unfold leftI wrong
  obtain ⟨_, _, rest, h3, h4⟩ := run_ok (s := .star) trivial bs
  have := congrArg List.length h3
  rw [List.length_append, List.length_append] at this
  by_cases hb : (run .star bs).1 = .bad
  · rw [hb]; rfl
  · have h0 : isBad (run .star bs).1 = false := by cases h : isBad (run .star bs).1 with
      | false => rfl
      | true => exact absurd (isBad_iff.1 h) hb
    rw [h0]
    rcases h4 with h4 | h4
    · exact absurd h4 hb
    · rw [← h4]
      simp only [Bool.false_eq_true, if_false]
      unfold used cmds
      simp [got] at this
      omega
theorem err_of (bs b : Bytes) : errI (bs ++ b) = errOf (run (run .star bs).1 b).1 := by
  unfold errI errOf wrong
  rw [run_append]
theorem fresh_pt (w : World) : PT (w.alloc (.cells (pcs (fnv 36) 0 nilS 0 0 nilS) 62)) w.heap.size (pblk w.heap.size nilS nilS) .star :=
  ⟨nilS, nilS, [], 0, 0, [], rfl, ⟨Box.new w _ _, BRow.nil _ _, SRow.nil _ _⟩, rfl, rfl, rfl⟩
theorem pblk_nil {x pb : Nat} : x ∈ pblk pb nilS nilS ↔ x = pb := by
  rw [mem_pblk]
  simp [nilS, Value.ownBlock]

theorem new_calls (w : World) : Calls Try.prog 11 #[] w fun e w' => ∃ v own, e = .returned (.pointer (some ⟨v, 0, none⟩)) ∧ AtR w' own v [] ∧ Below w.heap.size w w' ∧ ∀ x ∈ own, w.heap.size ≤ x := by
  go_enter Try.func11, Try.ntmps11
  go_wp2_with fail
  refine (fresh_calls _).mono ?_
  rintro e w1 ⟨rfl, rfl⟩
  have HP := Lib.hid (fresh_pt w)
  have hb1 : Below w.heap.size w (w.alloc (.cells (pcs (fnv 36) 0 nilS 0 0 nilS) 62)) := (Below.refl _ _).alloc (Nat.le_refl _) _
  have hs1 : (w.alloc (.cells (pcs (fnv 36) 0 nilS 0 0 nilS) 62)).heap.size = w.heap.size + 1 := by simp
  have HB := Lib.hid (And.intro hb1 hs1)
  clear hb1 hs1
  generalize w.alloc (.cells (pcs (fnv 36) 0 nilS 0 0 nilS) 62) = W at HP HB ⊢
  go_wp2_with fail
  go_ret
  refine ⟨W.heap.size, W.heap.size :: pblk w.heap.size nilS nilS, rfl, ⟨_, _, rfl, Box.new W _ _, HP.out.below ((Below.refl _ _).alloc (Nat.le_refl _) _)⟩, HB.out.1.alloc (by have := HB.out.2; omega) _, fun x hx => ?_⟩
  rcases List.mem_cons.1 hx with rfl | hx
  · have := HB.out.2; omega
  · rw [pblk_nil] at hx; omega

section
variable {w : World} {own : List Nat} {v : Nat} {bs : Bytes}
theorem made_calls (pb : Nat) (h : Box w v 56 #[.pointer (some ⟨pb, 0, none⟩)]) :
    Calls Try.prog 28 #[.pointer (some ⟨v, 0, none⟩)] w fun e w' => e = .returned (.bool true) ∧ w' = w := by
  have c0 := h.cell 0
  simp only [List.getElem?_toArray, List.getElem?_cons_zero] at c0
  clear h
  go_enter Try.func28, Try.ntmps28
  go_wp2_with fail
  go_ret
  exact ⟨rfl, rfl⟩
theorem unmade_calls (w : World) : Calls Try.prog 28 #[.pointer none] w fun e w' => e = .returned (.bool false) ∧ w' = w := by
  go_enter Try.func28, Try.ntmps28
  go_wp2_with fail
  go_ret
  exact ⟨rfl, rfl⟩
theorem Feed_calls (h : AtR w own v bs) (A : Option Addr) (cap : Nat) (b : Bytes) (hB : BS (Free own w) w A cap b) (hlen : bs.length + b.length ≤ 1048576) :
    Calls Try.prog 12 #[.pointer (some ⟨v, 0, none⟩), .slice A b.length cap] w fun e w' => ∃ own' A' c L, e = .returned (.tuple #[.slice A' L.length c, .int .i64 (errI (bs ++ b))]) ∧ (A' = none → c = 0) ∧ L.map (·.1) = news bs b ∧ Handed (Out own own' w w') w' A' L ∧ AtR w' own' v (bs ++ b) ∧ Kept own w own' w' := by
  obtain ⟨pb, own2, rfl, hb, hp⟩ := h
  have hvn : v ∉ own2 := hp.not hb (by decide) (by decide) (by decide)
  have hB2 : BS (Free own2 w) w A cap b := ⟨hB.bts, hB.le, hB.nil, fun a ha hne => ⟨(hB.fr a ha hne).1, fun hc => (hB.fr a ha hne).2 (by simp [hc])⟩⟩
  have hok := (run_ok (s := .star) trivial bs).1
  have HF := Lib.hid (feed_calls hp hok hB2 (by have := got_le bs; omega))
  have HM := Lib.hid (made_calls pb hb)
  have c0 := hb.cell 0
  simp only [List.getElem?_toArray, List.getElem?_cons_zero] at c0
  have HB := Lib.hid hb
  have HN := Lib.hid hvn
  rw [err_of]
  clear hp hok hB hB2 hb hvn
  go_enter Try.func12, Try.ntmps12
  go_wp2_with fail
  refine HM.out.mono ?_
  rintro e w1 ⟨rfl, rfl⟩
  go_wp2_with fail
  refine HF.out.mono ?_
  rintro e w2 ⟨own', A', c, L, last, rfl, r1, r2, r3, r4, r5, r6, r7⟩
  have HR := Lib.hid (And.intro r1 (And.intro r3 (And.intro r4 (And.intro r5 r6))))
  clear r1 r2 r3 r4 r5 r6 r7 HF HM
  go_wp2_with fail
  go_ret2
  obtain ⟨r1, r3, r4, r5, r6⟩ := HR.out
  have hv2 : v ∉ own' := fun hc => (r6.2 v hc).elim HN.out (fun h => by have := HB.out.lt; omega)
  refine ⟨v :: own', A', c, L, rfl, r1, r3, r4.mono (fun k hk => ⟨⟨hk.1.1, fun hc => ?_⟩, hk.2.imp (fun h => by simp [h]) id⟩), ⟨pb, own', rfl, HB.out.only r6.1 HN.out, by rw [run_append]; exact r5⟩, r6.1.mono (fun x hx => .inl (by simp [hx])), fun x hx => ?_⟩
  · rcases List.mem_cons.1 hc with rfl | hc
    · exact hk.2.elim HN.out (fun h => by have := HB.out.lt; omega)
    · exact hk.1.2 hc
  · rcases List.mem_cons.1 hx with rfl | hx
    · exact .inl (by simp)
    · exact (r6.2 x hx).imp (fun h => by simp [h]) id
theorem FeedNil_calls (w : World) : Calls Try.prog 12 #[.pointer none, .slice none 0 0] w fun e w' => ∃ A c, e = .returned (.tuple #[.slice A 0 c, .int .i64 1]) ∧ Below w.heap.size w w' := by
  go_enter Try.func12, Try.ntmps12
  go_wp2_with fail
  refine (unmade_calls _).mono ?_
  rintro e w1 ⟨rfl, rfl⟩
  go_wp2_with fail
  go_ret2
  exact ⟨none, 0, rfl, Below.refl _ _⟩
theorem Left_calls (h : AtR w own v bs) (hlen : bs.length ≤ 1048576) :
    Calls Try.prog 16 #[.pointer (some ⟨v, 0, none⟩)] w fun e w' => e = .returned (.int .i64 (leftI bs : Nat)) ∧ Below w.heap.size w w' := by
  obtain ⟨pb, own2, rfl, hb, vt, va, tx, num, cnt, ar, rfl, hp, hl⟩ := h
  have HM := Lib.hid (made_calls pb hb)
  have c0 := hb.cell 0
  have d1 := hp.box.cell 1
  simp only [pcs, List.getElem?_toArray, List.getElem?_cons_zero, List.getElem?_cons_succ] at c0 d1
  rw [left_got]
  clear hp hl hb
  go_enter Try.func16, Try.ntmps16
  go_wp2_with fail
  refine HM.out.mono ?_
  rintro e w1 ⟨rfl, rfl⟩
  go_wp2_with fail
  go_ret
  exact ⟨rfl, Below.refl _ _⟩
theorem Wrong_calls (h : AtR w own v bs) (hlen : bs.length ≤ 1048576) :
    Calls Try.prog 15 #[.pointer (some ⟨v, 0, none⟩)] w fun e w' => e = .returned (.bool (wrong bs)) ∧ Below w.heap.size w w' := by
  obtain ⟨pb, own2, rfl, hb, hp⟩ := h
  have HM := Lib.hid (made_calls pb hb)
  have HW := Lib.hid hp.wrong
  have c0 := hb.cell 0
  simp only [List.getElem?_toArray, List.getElem?_cons_zero] at c0
  clear hp hb
  go_enter Try.func15, Try.ntmps15
  go_wp2_with fail
  refine HM.out.mono ?_
  rintro e w1 ⟨rfl, rfl⟩
  go_wp2_with fail
  refine HW.out.mono ?_
  rintro e w1 ⟨rfl, rfl⟩
  go_wp2_with fail
  go_ret
  exact ⟨rfl, Below.refl _ _⟩
theorem Whole_calls (A : Option Addr) (cap : Nat) (b : Bytes) (w : World) (hb : Bts w A b) (hc : b.length ≤ cap) (hn : A = none → cap = 0) (hlen : b.length ≤ 1048576) :
    Calls Try.prog 19 #[.slice A b.length cap] w fun e w' => ∃ A' c, e = .returned (.tuple #[.slice A' (cmds b).length c, .int .i64 (used b : Nat), .int .i64 (errI b)]) ∧ (cmds b).length ≤ c ∧ Rows w' A' (cmds b) ∧ Below w.heap.size w w' := by
  have hb1 : Below w.heap.size w (w.alloc (.cells (pcs (fnv 36) 0 nilS 0 0 nilS) 62)) := (Below.refl _ _).alloc (Nat.le_refl _) _
  have hB : BS (Free (pblk w.heap.size nilS nilS) (w.alloc (.cells (pcs (fnv 36) 0 nilS 0 0 nilS) 62))) (w.alloc (.cells (pcs (fnv 36) 0 nilS 0 0 nilS) 62)) A cap b := by
    refine ⟨hb.keep hb1, hc, hn, fun a ha hne => ?_⟩
    obtain ⟨a2, e, c⟩ := hb 0 (List.length_pos_iff.2 hne)
    rw [ha] at e
    injection e with e
    subst e
    have := World.block_lt_of_cell? w _ c
    rw [add_blk] at this
    exact ⟨by simp; omega, fun hcc => by rw [pblk_nil] at hcc; omega⟩
  have HF := Lib.hid (feed_calls (fresh_pt w) trivial hB (by simp [got]; omega))
  have HB := Lib.hid hb1
  have he : errI b = errOf (run .star b).1 := err_of [] b
  rw [he]
  clear hb hc hn hB hb1 he
  go_enter Try.func19, Try.ntmps19
  go_wp2_with fail
  refine (fresh_calls _).mono ?_
  rintro e w1 ⟨rfl, rfl⟩
  go_wp2_with fail
  refine HF.out.mono ?_
  rintro e w2 ⟨own', A', c, L, last, rfl, r1, r2, r3, r4, r5, r6, r7⟩
  have hu : last = used b := by
    rcases r7 with ⟨rfl, h⟩ | h
    · unfold used cmds
      rw [← r3, h]; rfl
    · unfold used cmds
      rw [← r3]
      simpa [got] using h
  subst hu
  have hl : (cmds b).length = L.length := by unfold cmds; rw [← r3]; simp
  have HR := Lib.hid (And.intro r2 (And.intro r3 (And.intro r4 r6)))
  clear r1 r2 r3 r4 r5 r6 r7 HF
  go_wp2_with fail
  refine bodyPost_ret (results_tmp3 Try.results19 _ _ _ _ _ rfl rfl rfl) rfl ?_
  obtain ⟨r2, r3, r4, r6⟩ := HR.out
  refine ⟨A', c, by rw [hl]; rfl, by rw [hl]; exact r2, ?_, r6.1.below HB.out (fun x hx => by rw [pblk_nil] at hx; omega) HB.out.size⟩
  have := r4.rows
  rw [r3] at this
  exact this
end
end Go.Proofs.Ytgjedhdnnfdcgaa.Rp
