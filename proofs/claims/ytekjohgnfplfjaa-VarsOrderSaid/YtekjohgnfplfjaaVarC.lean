/-
  New; a number told, how long it lasts, given an END, taken away.
-/
import Derived.Test.YtekjohgnfplfjaaVarB
namespace Go.Proofs.Ytekjohgnfplfjaa.Va
open Go.RowKit Go.Maps

theorem later_calls (t d : Int) (ht : I64 t) (hd : I64 d) (w : World) : Calls Try.prog 22 #[.int .i64 t, .int .i64 d] w fun e w' => e = .returned (.int .i64 (later t d)) ∧ w' = w := by
  have e1 : IntKind.i64.wrap (clamp t + clamp d) = clamp t + clamp d := IntWalk.i64_in _ (by unfold clamp; omega)
  have E := Lib.hid (show clamp (clamp t + clamp d) = later t d by unfold later clamp; omega)
  go_enter Try.func22, Try.ntmps22
  go_wp2_with fail
  refine (clamp_quiet t _).mono ?_
  rintro e w1 ⟨rfl, rfl⟩
  go_wp2_with fail
  refine (clamp_quiet d _).mono ?_
  rintro e w1 ⟨rfl, rfl⟩
  go_wp2_with fail
  refine (clamp_quiet _ _).mono ?_
  rintro e w1 ⟨rfl, rfl⟩
  go_wp2_with fail
  go_ret
  exact ⟨by rw [E.out]; rfl, rfl⟩

theorem New_calls (room : Int) (hr : I64 room) (w : World) :
    Calls Try.prog 7 #[.int .i64 room] w fun e w' => ∃ v own, e = .returned (.pointer (some ⟨v, 0, none⟩)) ∧ At w' own v (clipR room) [] ∧ Below w.heap.size w w' ∧ ∀ x ∈ own, w.heap.size ≤ x := by
  have E := Lib.hid (show min (max room 0) 10000 = ((clipR room : Nat) : Int) by unfold clipR; omega)
  have hmm := @run_makeMap Try.prog
  go_enter Try.func7, Try.ntmps7
  go_wp2_with fail
  go_ret
  refine ⟨w.heap.size + 1, [w.heap.size + 1, w.heap.size], by rfl, ⟨w.heap.size, fun _ => 0, .map [], Good.nil (clipR_le room), by simp, ?_, ?_, Reads.nil, by simp, by simp, by simp, by simp, by simp, by simp; omega⟩, ?_, by simp⟩
  · rw [E.out]
    have := heap_alloc_new (w.alloc (.map #[] 0)) (.cells #[.int .i64 (clipR room : Nat), .map (some w.heap.size)] 50)
    rwa [World.size_alloc] at this
  · exact ((World.ownsMap_made w _ _ _).alloc _)
  · exact ((Below.refl _ _).alloc (Nat.le_refl _) _).alloc (by simp) _

theorem found {L : VL} (hr : Rising L) {key : ByteArray} {now : Int} (hh : has L key now = true) : ∃ x ∈ L, isLive now x = true ∧ x.1 = key ∧ getv L key now = x.2.1 ∧ endOf L key now = x.2.2 := by
  obtain ⟨x, h1, h2, h3⟩ := has_iff.1 hh
  refine ⟨x, h1, h2, h3, ?_, ?_⟩
  · unfold getv; rw [fnd_of hr h1 h2 h3]; rfl
  · unfold endOf; rw [fnd_of hr h1 h2 h3]; rfl
theorem getv_none {L : VL} {key : ByteArray} {now : Int} (hh : has L key now = false) : getv L key now = 0 := by
  unfold has at hh
  unfold getv
  cases h : fnd L key now with
  | none => rfl
  | some y => rw [h] at hh; cases hh
theorem endOf_none {L : VL} {key : ByteArray} {now : Int} (hh : has L key now = false) : endOf L key now = -1 := by
  unfold has at hh
  unfold endOf
  cases h : fnd L key now with
  | none => rfl
  | some y => rw [h] at hh; cases hh

section
variable {w : World} {own : List Nat} {v b room : Nat} {L : VL} {bl : ByteArray → Nat} {D : Dt}
theorem Get_calls (h : In w own v b room L bl D) (key : ByteArray) (now : Int) (hk : key.size ≤ maxLen) :
    Calls Try.prog 10 #[.pointer (some ⟨v, 0, none⟩), .string key, .int .i64 now] w fun e w' => e = .returned (.tuple #[.int .i64 (getv L key now), .bool (has L key now)]) ∧ Below w.heap.size w w' := by
  cases hh : has L key now with
  | true =>
    obtain ⟨x, hx, hl, rfl, hg, -⟩ := found h.good.rise hh
    rw [hg]
    have H := Lib.hid h
    clear h hg hh
    go_enter Try.func10, Try.ntmps10
    go_wp2_with fail
    refine (find_some H.out hx hl).mono ?_
    rintro e w1 ⟨rfl, hb⟩
    have c1 := (H.out.below hb).numc hx
    go_wp2_with fail
    go_ret2
    exact ⟨rfl, hb⟩
  | false =>
    rw [getv_none hh]
    have H := Lib.hid h
    clear h
    go_enter Try.func10, Try.ntmps10
    go_wp2_with fail
    refine (find_none H.out hk hh).mono ?_
    rintro e w1 ⟨rfl, hb⟩
    go_wp2_with fail
    go_ret2
    exact ⟨rfl, hb⟩

theorem Left_calls (h : In w own v b room L bl D) (key : ByteArray) (now : Int) (hk : key.size ≤ maxLen) :
    Calls Try.prog 11 #[.pointer (some ⟨v, 0, none⟩), .string key, .int .i64 now] w fun e w' => e = .returned (.tuple #[.int .i64 (left L key now), .bool (has L key now)]) ∧ Below w.heap.size w w' := by
  cases hh : has L key now with
  | true =>
    obtain ⟨x, hx, hl, rfl, -, hg⟩ := found h.good.rise hh
    have e0 : left L x.1 now = if x.2.2 < 0 then -1 else x.2.2 - clamp now := by unfold left; rw [if_pos hh, hg]
    have hf := (h.fits x hx).2.2
    rw [e0]
    have H := Lib.hid h
    clear h hg hh e0
    by_cases hn : x.2.2 < 0
    · rw [if_pos hn]
      have en : enc x.2.2 = 9007199254740993 := by unfold enc; rw [if_pos hn]
      go_enter Try.func11, Try.ntmps11
      go_wp2_with fail
      refine (find_some H.out hx hl).mono ?_
      rintro e w1 ⟨rfl, hb⟩
      have c1 := (H.out.below hb).endc hx
      rw [en] at c1
      clear en
      go_wp2_with fail
      go_ret2
      exact ⟨rfl, hb⟩
    · rw [if_neg hn]
      have en : enc x.2.2 = x.2.2 := by unfold enc; rw [if_neg hn]
      have t1 : (x.2.2 == 9007199254740993) = false := by simp; omega
      have t2 : IntKind.i64.wrap (x.2.2 - clamp now) = x.2.2 - clamp now := IntWalk.i64_in _ (by unfold clamp; omega)
      go_enter Try.func11, Try.ntmps11
      go_wp2_with fail
      refine (find_some H.out hx hl).mono ?_
      rintro e w1 ⟨rfl, hb⟩
      have c1 := (H.out.below hb).endc hx
      rw [en] at c1
      clear en
      go_wp2_with fail
      go_quiet ((go_at_call 23; refine Calls.quiet_of_same (clamp_quiet now _)))
      go_wp2_with fail
      go_ret2
      exact ⟨rfl, below_drewN hb _⟩
  | false =>
    have e0 : left L key now = 0 := by unfold left; rw [hh]; rfl
    rw [e0]
    have H := Lib.hid h
    clear h e0
    go_enter Try.func11, Try.ntmps11
    go_wp2_with fail
    refine (find_none H.out hk hh).mono ?_
    rintro e w1 ⟨rfl, hb⟩
    go_wp2_with fail
    go_ret2
    exact ⟨rfl, hb⟩

theorem Expire_calls (h : In w own v b room L bl D) (key : ByteArray) (last now : Int) (hk : key.size ≤ maxLen) (h1 : I64 last) (h2 : I64 now) :
    Calls Try.prog 9 #[.pointer (some ⟨v, 0, none⟩), .string key, .int .i64 last, .int .i64 now] w fun e w' => ∃ own', e = .returned (.bool (has L key now)) ∧ At w' own' v room (exp L key last now) ∧ Kept own w own' w' := by
  cases hh : has L key now with
  | true =>
    obtain ⟨x, hx, hl, rfl, hg, -⟩ := found h.good.rise hh
    have e0 : exp L x.1 last now = wi L (x.1, x.2.1, later now last) := by unfold exp; rw [if_pos hh, hg]
    rw [e0]
    have he : -1 ≤ later now last ∧ later now last ≤ 9007199254740992 := by unfold later clamp; omega
    have e1 : enc (later now last) = later now last := by unfold enc; rw [if_neg (by unfold later clamp; omega)]
    have H := Lib.hid h
    have HL := Lib.hid (later_calls now last h2 h1)
    have HE := Lib.hid (And.intro he e1)
    clear h hg hh e0 h1 h2 he e1
    go_enter Try.func9, Try.ntmps9
    go_wp2_with fail
    refine (find_some H.out hx hl).mono ?_
    rintro e w1 ⟨rfl, hb⟩
    have h1 := H.out.below hb
    have c1 := h1.endc hx
    have f1 := h1.froz hx 1
    have H1 := Lib.hid h1
    clear h1
    go_wp2_with fail
    refine (HL.out w1).mono ?_
    rintro e w2 ⟨rfl, rfl⟩
    go_wp2_with fail
    go_ret
    have k : Only [bl x.1] w2 (w2.setCell ⟨bl x.1, 1, none⟩ (.int .i64 (later now last))) := (Only.refl _ _).set (by simp) _
    refine ⟨own, rfl, ⟨b, bl, D, H1.out.write hx (H1.out.fits x hx).2.1 HE.out.1 k ?_⟩, (Only.of_below own hb).also (k.mono fun y hy => .inl ?_), fun y hy => .inl hy⟩
    · rw [heap_setCell_same _ _ _ _ _ _ (H1.out.nums x hx), HE.out.2]; rfl
    · simp at hy; subst hy; exact H1.out.ownN x hx
  | false =>
    have e0 : exp L key last now = L := by unfold exp; rw [hh]; rfl
    rw [e0]
    have H := Lib.hid h
    clear h e0
    go_enter Try.func9, Try.ntmps9
    go_wp2_with fail
    refine (find_none H.out hk hh).mono ?_
    rintro e w1 ⟨rfl, hb⟩
    go_wp2_with fail
    go_ret
    exact ⟨own, rfl, ⟨b, bl, D, H.out.below hb⟩, Kept.of_below hb⟩

theorem turned_only {w w' : World} {b : Nat} (h : w.mapTurned w' b) : Only [b] w w' := (Only.refl _ _).grown h.grown (fun k hk => by cases hk; exact .inl (by simp))
theorem keys_wo {L : VL} {key : ByteArray} (k : ByteArray) : (∃ x ∈ wo L key, x.1 = k) ↔ (∃ x ∈ L, x.1 = k) ∧ ¬ k = key := by
  constructor
  · rintro ⟨y, hy, rfl⟩
    exact ⟨⟨y, (mem_wo.1 hy).1, rfl⟩, (mem_wo.1 hy).2⟩
  · rintro ⟨⟨y, hy, rfl⟩, hne⟩
    exact ⟨y, mem_wo.2 ⟨hy, hne⟩, rfl⟩

theorem Delete_calls (h : In w own v b room L bl D) (key : ByteArray) (now : Int) (hk : key.size ≤ maxLen) :
    Calls Try.prog 15 #[.pointer (some ⟨v, 0, none⟩), .string key, .int .i64 now] w fun e w' => ∃ own', e = .returned (.bool (has L key now)) ∧ At w' own' v room (del L key now) ∧ Kept own w own' w' := by
  cases hh : has L key now with
  | true =>
    obtain ⟨x, hx, hl, rfl, -, -⟩ := found h.good.rise hh
    have e0 : del L x.1 now = wo L x.1 := by unfold del; rw [if_pos hh]
    rw [e0]
    have H := Lib.hid h
    have HK := Lib.hid hk
    clear h hh e0 hk
    go_enter Try.func15, Try.ntmps15
    go_wp2_with fail
    refine (find_some H.out hx hl).mono ?_
    rintro e w1 ⟨rfl, hb⟩
    have h1 := H.out.below hb
    have c1 := h1.mapc
    have H1 := Lib.hid h1
    have HB := Lib.hid hb
    clear h1 hb
    go_wp2_with (at_delete; refine wpList_delete_own _ rfl _ _ 48 9 rfl 51 law Try.underlying48 _ b _ D rfl H1.out.map _ _ rfl (key_of HK.out) ?_; intro w2 ho ht)
    go_ret
    have k := turned_only ht
    refine ⟨own, rfl, ⟨b, bl, _, H1.out.fewer List.filter_sublist k ho (H1.out.reads.del x.1 keys_wo)⟩, (Only.of_below own HB.out).also (k.mono fun y hy => .inl ?_), fun y hy => .inl hy⟩
    simp at hy; subst hy; exact H1.out.ownB
  | false =>
    have e0 : del L key now = L := by unfold del; rw [hh]; rfl
    rw [e0]
    have H := Lib.hid h
    clear h e0
    go_enter Try.func15, Try.ntmps15
    go_wp2_with fail
    refine (find_none H.out hk hh).mono ?_
    rintro e w1 ⟨rfl, hb⟩
    go_wp2_with fail
    go_ret
    exact ⟨own, rfl, ⟨b, bl, D, H.out.below hb⟩, Kept.of_below hb⟩
end
theorem setNil_calls (key : ByteArray) (n now : Int) (w : World) :
    Calls Try.prog 8 #[.pointer none, .string key, .int .i64 n, .int .i64 now] w fun e w' => e = .returned (.int .i64 1) ∧ Below w.heap.size w w' := by
  go_enter Try.func8, Try.ntmps8
  go_wp2_with fail
  refine (madeNil_calls _).mono ?_
  rintro e w1 ⟨rfl, rfl⟩
  go_wp2_with fail
  go_ret
  exact ⟨rfl, Below.refl _ _⟩
end Go.Proofs.Ytekjohgnfplfjaa.Va
