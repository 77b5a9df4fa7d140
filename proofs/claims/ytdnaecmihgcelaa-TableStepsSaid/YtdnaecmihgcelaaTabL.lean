/-
  The table's own methods, said of a list of pairs.
-/
import Derived.Test.YtdnaecmihgcelaaTabK
namespace Go.Proofs.Ytdnaecmihgcelaa.Tb
open Go.RowKit

/-- a call that may turn the table's own blocks, and no other that there was -/
def Kept (own : List Nat) (w : World) (own' : List Nat) (w' : World) : Prop := Only own w w' ∧ ∀ x ∈ own', x ∈ own ∨ w.heap.size ≤ x

theorem Tbl.keep {w w' : World} {own o2 : List Nat} {t room : Nat} {l : PL} (h : Tbl w own t room l) (hb : Only o2 w w') (hd : ∀ x ∈ own, x ∉ o2) : Tbl w' own t room l := by
  obtain ⟨L, S, ids, a, g, s, p, r, rfl, ht, hn⟩ := h.ex
  refine ⟨L, S, ids, a.keep hb (hd _ (by simp)) (hd _ (by simp)) (hd _ (by simp)), g, s, p, r, rfl, ?_, hn⟩
  rw [hb.block t (Array.getElem?_eq_some_iff.1 ht).1 (hd _ (by simp))]
  exact ht
theorem Tbl.below {w w' : World} {own : List Nat} {t room : Nat} {l : PL} (h : Tbl w own t room l) (hb : Below w.heap.size w w') : Tbl w' own t room l := h.keep (o2 := []) (Only.of_below [] hb) (by simp)
theorem Tbl.alloc {w : World} {own : List Nat} {t room : Nat} {l : PL} (h : Tbl w own t room l) (o : Obj) : Tbl (w.alloc o) own t room l := h.below ((Below.refl _ _).alloc (Nat.le_refl _) _)
theorem Tbl.drewN {w : World} {own : List Nat} {t room : Nat} {l : PL} (h : Tbl w own t room l) (n : Nat) : Tbl (w.drewN n) own t room l := h.below (below_drewN (Below.refl _ _) n)
theorem Tbl.lt {w : World} {own : List Nat} {t room : Nat} {l : PL} (h : Tbl w own t room l) : ∀ x ∈ own, x < w.heap.size := by
  obtain ⟨L, S, ids, a, g, s, p, r, rfl, ht, hn⟩ := h.ex
  intro x hx
  simp only [List.mem_cons, List.not_mem_nil, or_false] at hx
  rcases hx with rfl | rfl | rfl | rfl
  · exact (Array.getElem?_eq_some_iff.1 ht).1
  · exact a.olt
  · exact a.elt
  · exact a.plt
theorem Tbl.types {w : World} {own : List Nat} {t room : Nat} {l : PL} (h : Tbl w own t room l) : ∀ x ∈ own, ∃ cur ty, w.heap[x]? = some (.cells cur ty (0, 0)) ∧ (ty = 63 ∨ ty = 75 ∨ ty = 80 ∨ ty = 3) := by
  obtain ⟨L, S, ids, a, g, s, p, r, rfl, ht, hn⟩ := h.ex
  intro x hx
  simp only [List.mem_cons, List.not_mem_nil, or_false] at hx
  rcases hx with rfl | rfl | rfl | rfl
  · exact ⟨_, _, ht, .inl rfl⟩
  · exact ⟨_, _, a.o, .inr (.inl rfl)⟩
  · obtain ⟨c, h1, _⟩ := a.e
    exact ⟨_, _, h1, .inr (.inr (.inl rfl))⟩
  · obtain ⟨c, h1, _⟩ := a.p
    exact ⟨_, _, h1, .inr (.inr (.inr rfl))⟩
theorem Tbl.apart {w : World} {own : List Nat} {t room : Nat} {l : PL} (h : Tbl w own t room l) {b : Nat} {cur : Array Value} {ty : TypeId} {fz : Nat × Nat} (hb : w.heap[b]? = some (.cells cur ty fz)) (ht : ty ≠ 63 ∧ ty ≠ 75 ∧ ty ≠ 80 ∧ ty ≠ 3) : b ∉ own := fun hc => by
  obtain ⟨c, ty2, h1, h2⟩ := h.types b hc
  rw [hb] at h1
  injection h1 with h1
  injection h1 with _ h1 _
  subst h1
  rcases h2 with e | e | e | e
  · exact ht.1 e
  · exact ht.2.1 e
  · exact ht.2.2.1 e
  · exact ht.2.2.2 e
theorem Tbl.len_le {w : World} {own : List Nat} {t room : Nat} {l : PL} (h : Tbl w own t room l) : l.length ≤ room ∧ room ≤ 10000 := by
  obtain ⟨L, S, ids, a, g, s, rfl, rfl, _⟩ := h.ex
  have := g.len
  have := g.fits
  have := g.most
  unfold pairs
  rw [List.length_map]
  omega
theorem Tbl.nodup {w : World} {own : List Nat} {t room : Nat} {l : PL} (h : Tbl w own t room l) : (l.map (·.1)).Nodup := by
  obtain ⟨L, S, ids, a, g, s, rfl, rfl, _⟩ := h.ex
  unfold pairs
  rw [List.map_map]
  show List.Pairwise _ _
  rw [List.pairwise_map]
  refine List.Pairwise.imp_of_mem (R := fun a b => a ≠ b) ?_ g.nd
  intro i j hi hj hne he
  have h1 := (g.mem i).1 hi
  have h2 := (g.mem j).1 hj
  exact hne (g.keys i j h1.1 h1.2 h2.1 h2.2 he)

theorem Put_calls {w : World} {own : List Nat} {t room : Nat} {l : PL} (h : Tbl w own t room l) (key : ByteArray) (hk : key.size ≤ maxLen) (v : Int) :
    Calls Try.prog 24 #[.pointer (some ⟨t, 0, none⟩), .string key, .int .i64 v] w fun e w' => ∃ own', e = .returned (.bool (put room l key v).2) ∧ Tbl w' own' t room (put room l key v).1 ∧ Kept own w own' w' := by
  obtain ⟨L, S, ids, a, g, s, rfl, rfl, rfl, ht, hn⟩ := h.ex
  have c1 : w.cell? ⟨t, 0, none⟩ = some (.pointer (some ⟨L.ob, 0, none⟩)) := by rw [cell_of_row _ _ _ _ _ _ ht]; rfl
  have H := Lib.hid h
  have HA := Lib.hid (And.intro a (And.intro g s))
  have HT := Lib.hid (And.intro ht hn)
  clear h a g s ht hn
  go_enter Try.func24, Try.ntmps24
  go_wp2_with fail
  refine (made_calls H.out).mono ?_
  rintro e w1 ⟨rfl, rfl⟩
  go_wp2_with fail
  refine (put_calls HA.out.1 HA.out.2.1 HA.out.2.2 key hk v).mono ?_
  rintro e w1 ⟨rfl, L', S', ids', a2, g2, s2, p2, r2, b2, o2, n2⟩
  have hz := (Array.getElem?_eq_some_iff.1 HT.out.1).1
  have F : Hid (∃ own', Tbl w1 own' t S.room (put S.room (pairs S ids) key v).1 ∧ Kept (t :: L.own) w own' w1) := Lib.hid ⟨t :: L'.own, ⟨L', S', ids', a2, g2, s2, p2, r2, rfl, by
      rw [o2.block t hz HT.out.2, HT.out.1, b2], fun hc => (n2 t hc).elim HT.out.2 (fun h => by omega)⟩,
    o2.mono (fun x hx => .inl (List.mem_cons_of_mem _ hx)), fun x hx => by
      rcases List.mem_cons.1 hx with rfl | hx
      · exact .inl (by simp)
      · exact (n2 x hx).imp (List.mem_cons_of_mem _) id⟩
  clear a2 g2 s2 p2 r2 b2 o2 n2 c1 HT HA H
  go_wp2_with fail
  go_ret
  obtain ⟨own', h1, h2⟩ := F.out
  exact ⟨own', rfl, h1, h2⟩

theorem Peek_calls {w : World} {own : List Nat} {t room : Nat} {l : PL} (h : Tbl w own t room l) (key : ByteArray) (hk : key.size ≤ maxLen) :
    Calls Try.prog 15 #[.pointer (some ⟨t, 0, none⟩), .string key] w fun e w' => e = .returned (.tuple #[.int .i64 (getv l key), .bool (has l key)]) ∧ Below w.heap.size w w' := by
  obtain ⟨L, S, ids, a, g, s, rfl, rfl, rfl, ht, hn⟩ := h.ex
  obtain ⟨i, hi⟩ := num_exists S key
  have c1 : w.cell? ⟨t, 0, none⟩ = some (.pointer (some ⟨L.ob, 0, none⟩)) := by rw [cell_of_row _ _ _ _ _ _ ht]; rfl
  have e := g.val_ hi
  have hp := peek_calls a g key hk hi
  rw [e.1, e.2] at hp
  have H := Lib.hid h
  have HP := Lib.hid hp
  clear h a g s ht hn hi hp e
  go_enter Try.func15, Try.ntmps15
  go_wp2_with fail
  refine (made_calls H.out).mono ?_
  rintro e w1 ⟨rfl, rfl⟩
  go_wp2_with fail
  refine HP.out.mono ?_
  rintro e w1 ⟨rfl, hb⟩
  go_wp2_with fail
  go_ret2
  exact ⟨rfl, hb⟩

theorem Next_calls {w : World} {own : List Nat} {t room : Nat} {l : PL} (h : Tbl w own t room l) (key : ByteArray) (hk : key.size ≤ maxLen) :
    Calls Try.prog 17 #[.pointer (some ⟨t, 0, none⟩), .string key] w fun e w' => e = .returned (.tuple #[.string (nxt l key).1, .bool (nxt l key).2]) ∧ Below w.heap.size w w' := by
  obtain ⟨L, S, ids, a, g, s, rfl, rfl, rfl, ht, hn⟩ := h.ex
  obtain ⟨i, hi⟩ := num_exists S key
  have c1 : w.cell? ⟨t, 0, none⟩ = some (.pointer (some ⟨L.ob, 0, none⟩)) := by rw [cell_of_row _ _ _ _ _ _ ht]; rfl
  have hp := next_calls a g key hk hi
  have e1 : (if i = 0 then (⟨#[]⟩ : ByteArray) else S.key (S.new i)) = (nxt (pairs S ids) key).1 ∧ (if i = 0 then false else decide (S.new i ≠ 0)) = (nxt (pairs S ids) key).2 := by
    by_cases hz : i = 0
    · subst hz
      rw [nxt_none (g.none_ hi)]
      exact ⟨rfl, rfl⟩
    · obtain ⟨l1, l2, h1, h2, h3, h4⟩ := g.split hi hz
      rw [if_neg hz, if_neg hz, h2, nxt_split h3]
      have hr := g.ring
      rw [h1] at hr
      have hr2 := (Ring.split.1 hr).2
      cases l2 with
      | nil =>
        have : S.new i = 0 := hr2.1
        rw [this]
        exact ⟨g.key0, rfl⟩
      | cons j l2 =>
        have : S.new i = j := hr2.1.1
        rw [this]
        have hj := (g.mem j).1 (by rw [h1]; simp)
        exact ⟨rfl, decide_eq_true (by omega)⟩
  rw [e1.1, e1.2] at hp
  have H := Lib.hid h
  have HP := Lib.hid hp
  clear h a g s ht hn hi hp e1
  go_enter Try.func17, Try.ntmps17
  go_wp2_with fail
  refine (made_calls H.out).mono ?_
  rintro e w1 ⟨rfl, rfl⟩
  go_wp2_with fail
  refine HP.out.mono ?_
  rintro e w1 ⟨rfl, hb⟩
  go_wp2_with fail
  go_ret2
  exact ⟨rfl, hb⟩

theorem Len_calls {w : World} {own : List Nat} {t room : Nat} {l : PL} (h : Tbl w own t room l) :
    Calls Try.prog 22 #[.pointer (some ⟨t, 0, none⟩)] w fun e w' => e = .returned (.int .i64 (l.length : Nat)) ∧ w = w' := by
  obtain ⟨L, S, ids, a, g, s, rfl, rfl, rfl, ht, hn⟩ := h.ex
  have c1 : w.cell? ⟨t, 0, none⟩ = some (.pointer (some ⟨L.ob, 0, none⟩)) := by rw [cell_of_row _ _ _ _ _ _ ht]; rfl
  have e : (pairs S ids).length = S.n := by unfold pairs; rw [List.length_map, g.len]
  rw [e]
  have H := Lib.hid h
  have HA := Lib.hid a
  clear h a g s ht hn e
  go_enter Try.func22, Try.ntmps22
  go_wp2_with fail
  refine (made_calls H.out).mono ?_
  rintro e w1 ⟨rfl, rfl⟩
  go_wp2_with fail
  refine (count_calls HA.out).mono ?_
  rintro e w1 ⟨rfl, rfl⟩
  go_wp2_with fail
  go_ret
  exact ⟨rfl, rfl⟩
theorem Len_nil (w : World) : Calls Try.prog 22 #[.pointer none] w fun e w' => e = .returned (.int .i64 0) ∧ w = w' := by
  go_enter Try.func22, Try.ntmps22
  go_wp2_with fail
  refine (made_nil _).mono ?_
  rintro e w1 ⟨rfl, rfl⟩
  go_wp2_with fail
  go_ret
  exact ⟨rfl, rfl⟩

theorem Get_calls {w : World} {own : List Nat} {t room : Nat} {l : PL} (h : Tbl w own t room l) (key : ByteArray) (hk : key.size ≤ maxLen) :
    Calls Try.prog 26 #[.pointer (some ⟨t, 0, none⟩), .string key] w fun e w' => ∃ own', e = .returned (.tuple #[.int .i64 (getv l key), .bool (has l key)]) ∧ Tbl w' own' t room (get l key) ∧ Kept own w own' w' := by
  obtain ⟨L, S, ids, a, g, s, rfl, rfl, rfl, ht, hn⟩ := h.ex
  obtain ⟨i, hi⟩ := num_exists S key
  have c1 : w.cell? ⟨t, 0, none⟩ = some (.pointer (some ⟨L.ob, 0, none⟩)) := by rw [cell_of_row _ _ _ _ _ _ ht]; rfl
  have e := g.val_ hi
  have hp := get_calls a g key hk hi
  have hfin : ∀ w', At w' L (if i = 0 then S else S.renew i) → Only L.own w w' → ∃ own', Tbl w' own' t S.room (get (pairs S ids) key) ∧ Kept (t :: L.own) w own' w' := fun w' a2 o2 => by
    have hz := (Array.getElem?_eq_some_iff.1 ht).1
    have ht2 : w'.heap[t]? = some (.cells #[.pointer (some ⟨L.ob, 0, none⟩)] 63 (0, 0)) := by rw [o2.block t hz hn]; exact ht
    have hk2 : Kept (t :: L.own) w (t :: L.own) w' := ⟨o2.mono (fun x hx => .inl (List.mem_cons_of_mem _ hx)), fun x hx => .inl hx⟩
    by_cases hz : i = 0
    · rw [if_pos hz] at a2
      subst hz
      have : get (pairs S ids) key = pairs S ids := by unfold get; rw [g.none_ hi]; rfl
      rw [this]
      exact ⟨_, ⟨L, S, ids, a2, g, s, rfl, rfl, rfl, ht2, hn⟩, hk2⟩
    · rw [if_neg hz] at a2
      obtain ⟨l1, l2, h1, h2, h3, h4⟩ := g.split hi hz
      have hki : S.key i = key := hi.elim (fun h => h.2.2) (fun h => absurd h.1 hz)
      have : get (pairs S ids) key = pairs S l1 ++ pairs S l2 ++ [(key, S.val i)] := by unfold get; rw [h2, if_pos has_split, del_split h3 h4, getv_split h3]
      rw [this]
      have g2 := g
      rw [h1] at g2
      refine ⟨_, ⟨L, S.renew i, l1 ++ l2 ++ [i], a2, g2.renew, s, ?_, rfl, rfl, ht2, hn⟩, hk2⟩
      rw [pairs_append, pairs_append, pairs_same (S := S) (S' := S.renew i) rfl rfl, pairs_same (S := S) (S' := S.renew i) rfl rfl, pairs_same (S := S) (S' := S.renew i) rfl rfl]
      congr 1
      show [(S.key i, S.val i)] = _
      rw [hki]
  rw [e.1, e.2] at hp
  have H := Lib.hid h
  have HP := Lib.hid hp
  have HF := Lib.hid hfin
  clear h a g s ht hn hi hp e hfin
  go_enter Try.func26, Try.ntmps26
  go_wp2_with fail
  refine (made_calls H.out).mono ?_
  rintro e w1 ⟨rfl, rfl⟩
  go_wp2_with fail
  refine HP.out.mono ?_
  rintro e w1 ⟨rfl, a2, o2⟩
  have F := Lib.hid (HF.out w1 a2 o2)
  clear a2 o2
  go_wp2_with fail
  go_ret2
  obtain ⟨own', h1, h2⟩ := F.out
  exact ⟨own', rfl, h1, h2⟩

theorem Delete_calls {w : World} {own : List Nat} {t room : Nat} {l : PL} (h : Tbl w own t room l) (key : ByteArray) (hk : key.size ≤ maxLen) :
    Calls Try.prog 25 #[.pointer (some ⟨t, 0, none⟩), .string key] w fun e w' => ∃ own', e = .returned (.bool (has l key)) ∧ Tbl w' own' t room (del l key) ∧ Kept own w own' w' := by
  obtain ⟨L, S, ids, a, g, s, rfl, rfl, rfl, ht, hn⟩ := h.ex
  obtain ⟨i, hi⟩ := num_exists S key
  have c1 : w.cell? ⟨t, 0, none⟩ = some (.pointer (some ⟨L.ob, 0, none⟩)) := by rw [cell_of_row _ _ _ _ _ _ ht]; rfl
  have e := g.val_ hi
  have hp := remove_calls a g s key hk hi
  have hfin : ∀ w', Only L.own w w' → ((i = 0 ∧ At w' L S) ∨ (i ≠ 0 ∧ ∃ P1 P2, At w' L ((((S.leave i).withPl P1)).fill i P2) ∧ Seats S.M (hm S) P1 (fun j => occ S j ∧ j ≠ i) ∧ ((i = S.n ∧ P2 = P1) ∨ (i ≠ S.n ∧ ∃ p, p < S.M ∧ P1 p = S.n ∧ P2 = upd P1 p i)))) →
      ∃ own', Tbl w' own' t S.room (del (pairs S ids) key) ∧ Kept (t :: L.own) w own' w' := fun w' o2 hor => by
    have hz := (Array.getElem?_eq_some_iff.1 ht).1
    have ht2 : w'.heap[t]? = some (.cells #[.pointer (some ⟨L.ob, 0, none⟩)] 63 (0, 0)) := by rw [o2.block t hz hn]; exact ht
    have hk2 : Kept (t :: L.own) w (t :: L.own) w' := ⟨o2.mono (fun x hx => .inl (List.mem_cons_of_mem _ hx)), fun x hx => .inl hx⟩
    rcases hor with ⟨hz, a2⟩ | ⟨hz, P1, P2, a2, s1, h2⟩
    · subst hz
      rw [del_none (g.none_ hi)]
      exact ⟨_, ⟨L, S, ids, a2, g, s, rfl, rfl, rfl, ht2, hn⟩, hk2⟩
    · obtain ⟨l1, l2, h1, h5, h3, h4⟩ := g.split hi hz
      rw [h5, del_split h3 h4, ← pairs_append]
      have g2 := g
      rw [h1] at g2
      obtain ⟨ids', g3, hp3⟩ := g2.remove s1 h2
      refine ⟨_, ⟨L, _, ids', a2, g3, fun j => ?_, hp3, ?_, rfl, ht2, hn⟩, hk2⟩
      · unfold Sm.fill
        split
        · exact s j
        · show upd S.sm i (S.sm S.n) j < _
          unfold upd
          split
          · exact s _
          · exact s _
      · unfold Sm.fill
        split <;> rfl
  rw [e.2] at hp
  have H := Lib.hid h
  have HP := Lib.hid hp
  have HF := Lib.hid hfin
  clear h a g s ht hn hi hp e hfin
  go_enter Try.func25, Try.ntmps25
  go_wp2_with fail
  refine (made_calls H.out).mono ?_
  rintro e w1 ⟨rfl, rfl⟩
  go_wp2_with fail
  refine HP.out.mono ?_
  rintro e w1 ⟨rfl, o2, a2⟩
  have F := Lib.hid (HF.out w1 o2 a2)
  clear a2 o2
  go_wp2_with fail
  go_ret
  obtain ⟨own', h1, h2⟩ := F.out
  exact ⟨own', rfl, h1, h2⟩

end Go.Proofs.Ytdnaecmihgcelaa.Tb
