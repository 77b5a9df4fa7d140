/-
  All keys that are there, rising.
-/
import Derived.Test.YtekjohgnfplfjaaVarI
import Derived.Test.YtekjohgnfplfjaaVarJ
import Derived.Sort.OwnSorted
namespace Go.Proofs.Ytekjohgnfplfjaa.Va
open Go.RowKit Go.Maps Go.Shelf Go.Sort
open Go.Proofs (encStr)
attribute [local go_sem] Oper.semAt_some

/-- which of these are there -/
def ks (L : VL) (now : Int) (xs : List KB) : List KB := xs.filter fun x => has L x.1 now
def sv (l : List KB) : List Value := l.map fun x => .string x.1
theorem ks_snoc (L : VL) (now : Int) (xs : List KB) (x : KB) : ks L now (xs ++ [x]) = ks L now xs ++ if has L x.1 now = true then [x] else [] := by
  unfold ks
  rw [List.filter_append]
  by_cases h : has L x.1 now = true <;> simp [h]
theorem ks_le (L : VL) (now : Int) (xs : List KB) : (ks L now xs).length ≤ xs.length := List.length_filter_le _ _
theorem has_is {L : VL} (g : Rising L) {now : Int} {x : Vr} (hx : x ∈ L) : has L x.1 now = isLive now x := by
  cases e : isLive now x with
  | true => exact has_iff.2 ⟨x, hx, e, rfl⟩
  | false =>
    cases h : has L x.1 now with
    | false => rfl
    | true =>
      obtain ⟨y, h1, h2, h3⟩ := has_iff.1 h
      rw [g.eq_of_key h1 hx h3, e] at h2
      cases h2
/-- sorted, they are the keys that are there -/
theorem ks_sorted {L : VL} (g : Rising L) {now : Int} {xs : List KB} (h : (raw xs).Perm (L.map fun x => x.1.data.toList)) :
    (raw (ks L now xs)).mergeSort (fun x y => decide (x ≤ y)) = (live L now).map fun x => x.1.data.toList := by
  have h1 : raw (ks L now xs) = (raw xs).filter fun k => has L (kb k) now := by
    unfold raw ks
    rw [List.filter_map]
    have e : xs.filter (fun x => has L x.1 now) = xs.filter ((fun k => has L (kb k) now) ∘ fun x => x.1.data.toList) := List.filter_congr fun x _ => by simp [Function.comp, kb_data]
    rw [e]
  have h2 : ((live L now).map fun x => x.1.data.toList) = (L.map fun x => x.1.data.toList).filter fun k => has L (kb k) now := by
    unfold live
    rw [List.filter_map]
    congr 1
    exact List.filter_congr fun x hx => by
      show _ = has L (kb x.1.data.toList) now
      rw [kb_data, has_is g hx]
  have h3 : (raw (ks L now xs)).Perm ((live L now).map fun x => x.1.data.toList) := by
    rw [h1, h2]; exact h.filter _
  have h4 := mergeSort_of_perm h3
  refine h4.trans (List.mergeSort_of_pairwise ?_)
  refine List.pairwise_map.2 ((g.filter _).imp fun {x y} hl => ?_)
  rw [lt_eq] at hl
  simp only [leB, decide_eq_true_eq] at hl ⊢
  exact List.le_of_lt hl

theorem others_of_below {W W' : World} (h : Below W.heap.size W W') : KeepsOthers W W' := ⟨h.size, fun k o hk _ => (h.block k (Array.getElem?_eq_some_iff.1 hk).1).trans hk⟩
theorem heap4 (w : World) (A B C E : Obj) : ((((w.alloc A).alloc B).alloc C).alloc E).heap[w.heap.size]? = some A ∧ ((((w.alloc A).alloc B).alloc C).alloc E).heap[w.heap.size + 1]? = some B ∧ ((((w.alloc A).alloc B).alloc C).alloc E).heap[w.heap.size + 1 + 1]? = some C ∧ ((((w.alloc A).alloc B).alloc C).alloc E).heap[w.heap.size + 1 + 1 + 1]? = some E := by
  have h : ∀ (W : World) (X : Obj) (i : Nat), i < W.heap.size → (W.alloc X).heap[i]? = W.heap[i]? := fun W X i hi => Below.heap_alloc _ _ _ hi
  refine ⟨?_, ?_, ?_, ?_⟩
  · rw [h _ _ _ (by simp; omega), h _ _ _ (by simp; omega), h _ _ _ (by simp), heap_alloc_new]
  · rw [h _ _ _ (by simp), h _ _ _ (by simp)]
    have := heap_alloc_new (w.alloc A) B
    rwa [World.size_alloc] at this
  · rw [h _ _ _ (by simp)]
    have := heap_alloc_new ((w.alloc A).alloc B) C
    rwa [World.size_alloc, World.size_alloc] at this
  · have := heap_alloc_new (((w.alloc A).alloc B).alloc C) E
    rwa [World.size_alloc, World.size_alloc, World.size_alloc] at this
theorem str_parts : ∃ i, Try.prog.info? 9 = some i ∧ i.zero = some (.string ⟨#[]⟩) ∧ i.size = 1 ∧ i.bytes = 16 := by
  have h : (Try.prog.info? 9).map (fun i => (i.zero, i.size, i.bytes)) = some (some (.string ⟨#[]⟩), 1, 16) := by kernel_rfl
  obtain ⟨i, h, a, b, c⟩ := info_parts h
  exact ⟨i, h, a, b, c⟩

theorem row_low {W W' : World} {B k : Nat} {T : TypeId} {v : Value} {xs : List Value} (h : W.ownsRow B T 1 v k xs) (hb : Below W.heap.size W W') : W'.ownsRow B T 1 v k xs := by
  refine ⟨h.1, ?_⟩
  rcases h.2 with h2 | ⟨g, cap, cur, hv, hB, hg, r⟩
  · exact .inl h2
  · exact .inr ⟨g, cap, cur, hv, hB, by rw [hb.block g (Array.getElem?_eq_some_iff.1 hg).1]; exact hg, r⟩
theorem box_low {W W' : World} {B : Nat} {t : TypeId} {v : Value} (h : Boxed W B t v) (hb : Below W.heap.size W W') : Boxed W' B t v := (hb.block _ h.lt).trans h
theorem sort_own {W : World} {B gg cap : Nat} {l : List KB} {ts : List (List UInt8)} (hrow : W.ownsRow B 9 1 (.slice (some ⟨gg, 0, none⟩) l.length cap) l.length (sv l)) (hl : l.length ≤ 10000) (hs : (raw l).mergeSort (fun x y => decide (x ≤ y)) = ts) :
    Calls Try.prog 27 #[.slice (some ⟨gg, 0, none⟩) l.length cap] W fun e w' => e = .returned (.tuple #[]) ∧ W.grownBy w' (some gg) ∧ w'.ownsRow B 9 1 (.slice (some ⟨gg, 0, none⟩) ts.length cap) ts.length (ts.map encStr) := by
  have hsl : (raw l).length = l.length := by simp [raw]
  have hsv : (raw l).map encStr = sv l := by
    unfold raw sv
    rw [List.map_map]
    exact List.map_congr_left fun x _ => by show encStr x.1.data.toList = _; rw [kb_enc, kb_data]
  have htl : ts.length = (raw l).length := by rw [← hs]; simp
  rcases hrow.2 with ⟨hnil, _⟩ | ⟨g2, cap2, cur, e, hbase, hb, h1, h2, h3, h4⟩
  · cases hnil
  cases e
  have hH : Holds encStr W gg 0 (raw l).toArray := holds_of_block hb (by rw [hsv, hsl]; simpa using h4)
  have hc := sort_calls gg 0 cap (raw l) W hH (Array.getElem?_eq_some_iff.1 hb).1 (by omega)
  rw [hsl, hs] at hc
  refine hc.mono ?_
  rintro e w' ⟨rfl, nn, os, rfl⟩
  refine ⟨rfl, grownBy_sorted _, ?_⟩
  have := ownsRow_sorted (n := nn) (os := os) (ss := raw l) (ts := ts) htl hbase hb (by rw [hsl]; exact h1) h2 h3
  rw [← htl] at this
  exact this

section
variable {w : World} {own : List Nat} {v b room : Nat} {L : VL} {bl : ByteArray → Nat} {D : Dt}
theorem find_yes (h : In w own v b room L bl D) {key : ByteArray} {now : Int} (hh : has L key now = true) :
    Calls Try.prog 20 #[.pointer (some ⟨v, 0, none⟩), .string key, .int .i64 now] w fun r w' => r = .returned (.pointer (some ⟨bl key, 0, none⟩)) ∧ Below w.heap.size w w' := by
  obtain ⟨x, hx, hl, rfl, -, -⟩ := found h.good.rise hh
  exact find_some h hx hl

set_option maxRecDepth 100000 in
set_option maxHeartbeats 2000000 in
theorem Keys_calls (h : In w own v b room L bl D) (now : Int) :
    Calls Try.prog 17 #[.pointer (some ⟨v, 0, none⟩), .int .i64 now] w fun e w' => ∃ A cap, e = .returned (.slice A (live L now).length cap) ∧ SRow w' w.heap.size (.slice A (live L now).length cap) ((live L now).map (·.1)) ∧ Below w.heap.size w w' := by
  have c1 := h.mapc
  have hg := h.good.rise
  have hlen : L.length ≤ 10000 := Nat.le_trans h.good.len h.good.most
  have H := Lib.hid h
  clear h
  obtain ⟨i0, hi, hz0, hz1, hz2⟩ := str_parts
  refine (callsIn_wide (n := 4)).1 ?_
  refine callsIn_of_wp_marks Try.func17 rfl trivial ?_ rfl
  simp only [Try.ntmps17, List.size_toArray, List.length_cons, List.length_nil, Nat.reduceAdd, Nat.reduceSub, Array.replicate_succ, Array.replicate_zero, List.push_toArray, List.append_toArray, List.nil_append, List.cons_append]
  have c1c : (((w.alloc (.cells #[.pointer (some ⟨v, 0, none⟩)] 23)).alloc (.cells #[.int .i64 now] 3)).alloc (.cells #[.slice none 0 0] 42)).cell? ⟨v, 1, none⟩ = some (.map (some b)) := (H.out.below ((((Below.refl _ _).alloc (Nat.le_refl _) _).alloc (by simp) _).alloc (by simp; omega) _)).mapc
  have c1b : ((w.alloc (.cells #[.pointer (some ⟨v, 0, none⟩)] 23)).alloc (.cells #[.int .i64 now] 3)).cell? ⟨v, 1, none⟩ = some (.map (some b)) := (H.out.below (((Below.refl _ _).alloc (Nat.le_refl _) _).alloc (by simp) _)).mapc
  gi_wp2_with (first | (refine ⟨trivial, ?_⟩; gi_at_call 19; refine (callsIn_wide.2 (made_calls v b _ c1b)).mono ?_; rintro e w1 ⟨rfl, rfl⟩) | (refine ⟨trivial, ?_⟩; gi_at_call 26; refine (callsIn_wide.2 (maps_calls _ _)).mono ?_; rintro e w1 ⟨rfl, rfl⟩))
  have bR := heap4 w (.cells #[.pointer (some ⟨v, 0, none⟩)] 23) (.cells #[.int .i64 now] 3) (.cells #[.slice none 0 0] 42) (.cells #[.map (some b)] 48)
  have hB0 : Below w.heap.size w ((((w.alloc (.cells #[.pointer (some ⟨v, 0, none⟩)] 23)).alloc (.cells #[.int .i64 now] 3)).alloc (.cells #[.slice none 0 0] 42)).alloc (.cells #[.map (some b)] 48)) := ((((Below.refl _ _).alloc (Nat.le_refl _) _).alloc (by simp) _).alloc (by simp; omega) _).alloc (by simp; omega) _
  have hsz : ((((w.alloc (.cells #[.pointer (some ⟨v, 0, none⟩)] 23)).alloc (.cells #[.int .i64 now] 3)).alloc (.cells #[.slice none 0 0] 42)).alloc (.cells #[.map (some b)] 48)).heap.size = w.heap.size + 4 := by simp
  generalize ((((w.alloc (.cells #[.pointer (some ⟨v, 0, none⟩)] 23)).alloc (.cells #[.int .i64 now] 3)).alloc (.cells #[.slice none 0 0] 42)).alloc (.cells #[.map (some b)] 48)) = W1 at bR hB0 hsz ⊢
  clear c1 c1b c1c
  have bV : Boxed W1 w.heap.size 23 (.pointer (some ⟨v, 0, none⟩)) := bR.1
  have bT : Boxed W1 (w.heap.size + 1) 3 (.int .i64 now) := bR.2.1
  have bO : Boxed W1 (w.heap.size + 1 + 1) 42 (.slice none 0 0) := bR.2.2.1
  have bM : Boxed W1 (w.heap.size + 1 + 1 + 1) 48 (.map (some b)) := bR.2.2.2
  refine wpIn_rangeFunc_ownF rfl (by omega) (gf := 32) (lb := #[.pointer (some ⟨w.heap.size + 1 + 1 + 1, 0, none⟩)]) rfl trivial (enters_of Try.func32 (by kernel_rfl) rfl)
    (keys_stops 3 (by omega) (w.heap.size + 1 + 1 + 1) b (H.out.below hB0).reads hg W1 (by omega) bM.cell (H.out.below hB0).map) walksK_t walksK_b (Below.refl _ _) (fun _ => rfl)
    (fun pre W => (((∃ vv, Boxed W (w.heap.size + 1 + 1) 42 vv ∧ W.ownsRow w.heap.size 9 1 vv (ks L now pre).length (sv (ks L now pre)) ∧ True) ∧ Boxed W w.heap.size 23 (.pointer (some ⟨v, 0, none⟩))) ∧ Boxed W (w.heap.size + 1) 3 (.int .i64 now)) ∧ Below w.heap.size w W)
    (fun _ _ _ => False)
    (OwnFrom.and (OwnFrom.and (OwnFrom.and (Own.from (holdsRow_own w.heap.size (w.heap.size + 1 + 1) 42 9 1 (fun pre : List KB => (ks L now pre).length) (fun pre => sv (ks L now pre)) (fun _ _ => True)) _) (Own.from (boxed_own w.heap.size 23 (fun _ => .pointer (some ⟨v, 0, none⟩))) _)) (Own.from (boxed_own (w.heap.size + 1) 3 (fun _ => .int .i64 now)) _)) (ownFrom_below (Nat.le_refl _) (by omega)))
    (fun _ _ _ _ _ hs _ _ => hs)
    ⟨⟨⟨⟨_, bO, World.ownsRow_nil _ _ _ _, trivial⟩, bV⟩, bT⟩, hB0⟩
    (fun x => { tmps := #[.pointer (some ⟨v, 0, none⟩), .int .i64 now, .pointer (some ⟨w.heap.size, 0, none⟩), .pointer (some ⟨w.heap.size + 1, 0, none⟩), .slice none 0 0, .pointer (some ⟨w.heap.size + 1 + 1, 0, none⟩), .string x.1, .pointer (some ⟨v, 0, none⟩), .bool true, .bool false, .pointer (some ⟨v, 0, none⟩), .pointer (some ⟨v, 0, none⟩), .pointer (some ⟨v, 1, none⟩), .map (some b), .func (.func 32) #[] #[.pointer (some ⟨w.heap.size + 1 + 1 + 1, 0, none⟩)], .string x.1, undef, undef, undef, undef, undef, undef, undef, undef, undef, undef, undef, undef], defers := [] }) ?assign ?body ?done ?stop
  case assign =>
    intro l x W K hK
    gi_wp2
    exact hK
  case body =>
    rintro l pre x W ⟨⟨⟨⟨vv, hv, hrow, _⟩, hV⟩, hT⟩, hB⟩ hlt
    have hc := hv.cell
    have hcV := hV.cell
    have hcT := hT.cell
    have hBs := hB.size
    have hW := Lib.hid (H.out.below hB)
    have hkl := ks_le L now pre
    cases hh : has L x.1 now with
    | false =>
      have e2 : ks L now (pre ++ [x]) = ks L now pre := by rw [ks_snoc, hh]; simp
      gi_wp2_with (refine ⟨trivial, ?_⟩; gi_at_call 20; refine (CallsIn.inRound l (callsIn_wide.2 (find_none hW.out x.2 hh))).mono ?_; rintro e w1 ⟨rfl, hb⟩)
      refine ⟨others_of_below hb, (others_of_below hb).walks, ⟨⟨⟨vv, box_low hv hb, ?_, trivial⟩, box_low hV hb⟩, box_low hT hb⟩, hB.trans (hb.mono hB.size)⟩
      rw [e2]
      exact row_low hrow hb
    | true =>
      have e2 : ks L now (pre ++ [x]) = ks L now pre ++ [x] := by rw [ks_snoc, hh]; simp
      gi_wp2_with (first
        | (refine ⟨trivial, ?_⟩; gi_at_call 20; refine (CallsIn.inRound l (callsIn_wide.2 (find_yes hW.out hh))).mono ?_; rintro e w1 ⟨rfl, hb⟩; have hv1 := box_low hv hb; have hc1 := hv1.cell; have hrow1 := row_low hrow hb; have hB1 := hB.trans (hb.mono hB.size); have hs1 := hB1.size; have hV1 := box_low hV hb; have hT1 := box_low hT hb)
        | (gi_at_builtin; refine wpListIn_append_own _ rfl _ _ 42 rfl w.heap.size 9 i0 (.string ⟨#[]⟩) 1 16 Try.underlying42 hi hz0 hz1 hz2 rfl (by decide) _ _ _ rfl (hrow1.alloc _) ⟨w1.heap.size, 0, none⟩ 1 1 [.string x.1] rfl rfl (cell_one_new _ _ _) (by simp [Value.oneCell']) (by unfold maxLen; omega) (by omega) (by simp; omega) ?_; intro v' w2 hown' hgrow _; obtain ⟨g', cap', rfl⟩ := ownsRow_succ hown'; obtain ⟨hv2, hv3, hr3, hk3, hb3⟩ := hv1.appended (by decide) hrow1 hB1.size (by omega) hown' hgrow; have hc2 := hv2.cell; have hf2 := hv2.frozen; have hV2 := (hV1.alloc _).kept hgrow (hV1.not_row (by decide) hrow1); have hT2 := (hT1.alloc _).kept hgrow (hT1.not_row (by decide) hrow1)))
      refine ⟨(others_of_below hb).trans hk3, ((others_of_below hb).trans hk3).walks, ⟨⟨⟨_, hv3, ?_, trivial⟩, hV2.other (by omega) _⟩, hT2.other (by omega) _⟩, hB1.trans hb3⟩
      rw [e2]
      simpa [sv] using hr3
  case done =>
    rintro Dd ys W hD hperm ⟨⟨⟨⟨vv, hv, hrow, _⟩, hV⟩, hT⟩, hB⟩ hK
    have hc := hv.cell
    have hss := ks_sorted hg (now := now) hperm
    have hyl : ys.length = L.length := by simpa [raw] using hperm.length_eq
    have hkl := ks_le L now ys
    rcases hrow.2 with ⟨rfl, hn0⟩ | ⟨gg, cap, cur, rfl, hbase, hb, h1, h2, h3, h4⟩
    · have hL : live L now = [] := by
        have h0 : ks L now ys = [] := List.eq_nil_of_length_eq_zero hn0
        rw [h0] at hss
        simpa [raw] using hss.symm
      gi_wp2_with (refine ⟨trivial, ?_⟩; gi_at_call 27; refine (callsIn_wide.2 (sort_zero _)).mono ?_; rintro e w1 ⟨rfl, rfl⟩)
      refine ⟨by simp, .inl ⟨_, _, rfl, run_takeDeferred hK, ?_⟩⟩
      rw [hL]
      exact ⟨_, results_tmp rfl _ _ _, none, 0, rfl, World.ownsRow_nil _ _ _ _, hB.trans (belowK_b (w := w) (Nat.le_refl _) _ Dd _ _ (by omega) hK rfl rfl)⟩
    · have hsort := sort_own hrow (by omega) hss
      have hne : some (w.heap.size + 1 + 1) ≠ some gg := hv.not_row (by decide) hrow
      have hl1 : ((live L now).map fun x => x.1.data.toList).length = (ks L now ys).length := by rw [← hss]; simp [raw]
      have HS := Lib.hid hsort
      have HL := Lib.hid hl1
      have HR := Lib.hid hrow
      clear hsort hl1 hss
      gi_wp2_with (refine ⟨trivial, ?_⟩; gi_at_call 27; refine (callsIn_wide.2 HS.out).mono ?_; rintro e w1 ⟨rfl, hgr, ho⟩; have hv1 := hv.kept hgr hne; have hc1 := hv1.cell)
      have hDl : Dd < W.heap.size := (Array.getElem?_eq_some_iff.1 hK).1
      have hK1 : w1.heap[Dd]? = some (.deferred (some [])) := (hgr.block Dd hDl (fun e => by cases e; rw [hK] at hb; cases hb)).trans hK
      have hB1 : Below w.heap.size w w1 := hB.grown hgr hB.size (fun k e => by cases e; exact hbase)
      refine ⟨by simp, .inl ⟨_, _, rfl, run_takeDeferred hK1, ?_⟩⟩
      refine ⟨_, results_tmp rfl _ _ _, some ⟨gg, 0, none⟩, cap, ?_, ?_, hB1.trans (belowK_b (w := w) (Nat.le_refl _) w1 Dd _ _ (by omega) hK1 rfl rfl)⟩
      · rw [← HL.out, List.length_map]; rfl
      · have := ownsRow_putObj ho (.deferred none) hK1 rfl
        rw [List.length_map, List.map_map] at this
        unfold SRow
        rw [List.length_map, List.map_map]
        have e : (encStr ∘ fun x : Vr => x.1.data.toList) = ((fun p => .string p) ∘ fun x : Vr => x.1) := by
          funext x
          show encStr x.1.data.toList = _
          rw [kb_enc, kb_data]
          rfl
        rw [e] at this
        exact this
  case stop =>
    rintro Dd c pre W _ _ h _
    exact h.elim
end
end Go.Proofs.Ytekjohgnfplfjaa.Va
