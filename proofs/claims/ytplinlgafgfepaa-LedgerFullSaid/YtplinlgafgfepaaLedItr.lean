/-
  The iterator: what it comes to is collected out of the map, sorted, and handed out in new memory.
-/
import Derived.Test.YtplinlgafgfepaaLedEch
namespace Go.Proofs.Ytplinlgafgfepaa.Ld
open Go.RowKit Go.Maps Pr Go.Sort Go.Shelf
open Go.Lib (compareInt)
attribute [local go_sem] Oper.semAt_some

/-- those that came already, of those that are due till e -/
def got (L : LL (List Lim)) (e : Nat) (left : Lit → Bool) : List Nat := (L.filter fun x => decide (x.2.1 ≤ e) && !left (klit x.1)).map (·.1)
theorem got_done {L : LL (List Lim)} {e : Nat} {left : Lit → Bool} (h : ∀ kl, left kl = false) : got L e left = gone L e := by
  unfold got gone
  congr 1
  exact List.filter_congr fun x _ => by rw [h]; simp
theorem got_start {L : LL (List Lim)} {e : Nat} {left : Lit → Bool} (h : ∀ x ∈ L, left (klit x.1) = true) : got L e left = [] := by
  unfold got
  rw [List.map_eq_nil_iff, List.filter_eq_nil_iff]
  intro x hx
  rw [h x hx]
  simp
theorem sameKey_klit (x y : Int) : (klit x).sameKey (klit y) = decide (x = y) := by
  unfold klit
  by_cases h : x = y <;> simp [Lit.sameKey, h]
theorem got_nodup {last : Nat} {L : LL (List Lim)} (h : Good last L) (e : Nat) (left : Lit → Bool) : (got L e left).Nodup := by
  unfold got
  exact List.pairwise_map.2 ((h.rise.filter _).imp fun h => Nat.ne_of_lt h)
theorem got_step {last : Nat} {L : LL (List Lim)} (h : Good last L) {e : Nat} {left : Lit → Bool} {z : Du (List Lim)} (hz : z ∈ L) (hl : left (klit z.1) = true) {ids : List Nat} (hp : ids.Perm (got L e left)) :
    (if z.2.1 ≤ e then ids ++ [z.1] else ids).Perm (got L e fun kl => left kl && !kl.sameKey (klit z.1)) := by
  have key : ∀ (id : Nat), id ∈ got L e (fun kl => left kl && !kl.sameKey (klit z.1)) ↔ id ∈ got L e left ∨ (z.2.1 ≤ e ∧ id = z.1) := by
    intro id
    unfold got
    simp only [List.mem_map, List.mem_filter, Bool.and_eq_true, decide_eq_true_eq, Bool.not_eq_true', sameKey_klit]
    constructor
    · rintro ⟨x, ⟨hx, h1, h2⟩, rfl⟩
      by_cases hxz : x.1 = z.1
      · have := h.same hx hz hxz
        subst this
        exact .inr ⟨h1, rfl⟩
      · refine .inl ⟨x, ⟨hx, h1, ?_⟩, rfl⟩
        have : ¬ ((x.1 : Int) = (z.1 : Int)) := by omega
        simpa [this] using h2
    · rintro (⟨x, ⟨hx, h1, h2⟩, rfl⟩ | ⟨h1, rfl⟩)
      · exact ⟨x, ⟨hx, h1, by simp [h2]⟩, rfl⟩
      · exact ⟨z, ⟨hz, h1, by simp⟩, rfl⟩
  have nz : z.1 ∉ got L e left := by
    unfold got
    simp only [List.mem_map, List.mem_filter, Bool.and_eq_true, decide_eq_true_eq, Bool.not_eq_true', not_exists, not_and, and_imp]
    intro x hx h1 h2 hxz
    rw [h.same hx hz hxz, hl] at h2
    cases h2
  have hnd : ids.Nodup := hp.nodup_iff.2 (got_nodup h e left)
  refine (List.perm_ext_iff_of_nodup ?_ (got_nodup h e _)).2 fun id => ?_
  · split
    · rw [List.nodup_append]
      refine ⟨hnd, by simp, fun a ha b hb => ?_⟩
      rw [List.mem_singleton] at hb
      subst hb
      intro e2
      subst e2
      exact nz (hp.mem_iff.1 ha)
    · exact hnd
  · rw [key]
    split
    · rename_i hc
      simp [hp.mem_iff, hc]
    · rename_i hc
      simp [hp.mem_iff, hc]

theorem wpListIn_next_dues {F : Fence} {nF : Nat} {w : World} {ops : Array Oper} {rest : List Oper} {o : Oper} {a : Go.Act} {Q : Exit → Go.Act → World → Prop} (hg : o.guard = none) (it : Operand) (hop : o.op = Op.next it false)
    {m r n cnt : Nat} {D : Dt} {left : Lit → Bool} (hit : a.eval it = .pointer (some ⟨r, 0, none⟩)) (h : w.ranges Try.prog 3 elem m r n D left cnt) {L : LL (List Lim)} {bl : Nat → Nat} (hr : Reads D L bl)
    (hDone : (∀ kl, left kl = false) → wpListIn F nF Try.prog ops Q rest (a.put o.dst (.tuple #[.bool false])) w)
    (hMore : ∀ (id till : Nat) (ls : List Lim) (w' : World) (cnt' : Nat), (id, till, ls) ∈ L → left (klit id) = true → w'.ranges Try.prog 3 elem m r n D (fun kl => left kl && !kl.sameKey (klit id)) cnt' → cnt' < cnt → w.grownBy w' (some r) →
      (Instr.entry (.pointer (some ⟨r, 0, none⟩))).run Try.prog w' = .ok (.tuple #[.int .i64 (id : Nat), .agg #[.int .i64 (id : Nat), .int .i64 (till : Nat), .slice (la (bl id) ls.length) ls.length ls.length]]) w' →
      wpListIn F nF Try.prog ops Q rest (a.put o.dst (.tuple #[.bool true, .int .i64 (id : Nat), .agg #[.int .i64 (id : Nat), .int .i64 (till : Nat), .slice (la (bl id) ls.length) ls.length ls.length]])) w') :
    wpListIn F nF Try.prog ops Q (o :: rest) a w := by
  refine wpListIn_next_ranges w hg it hop 3 klaw elem (Value.int .i64) (fun v : Value => v) (fun key kl hk => by obtain ⟨x, rfl, _⟩ := Maps.keyOf_int_inv Try.underlying3 hk; exact ⟨x, rfl⟩) (fun v y _ => ⟨v, rfl⟩) m r n D left cnt hit h (fun _ hl => hDone hl) ?_
  intro x c kl y w2 cnt2 hkey hlk hv hat hrg hlt hg2 hs2 hen
  obtain ⟨x', ex, rfl, _⟩ := Maps.keyOf_int_inv Try.underlying3 hkey
  cases ex
  obtain ⟨z, hz, e⟩ := (hr.has x).1 (Maps.has_true_of_atKey hat)
  have hc : c = sval z (bl z.1) := by
    have h1 := elem_inv hv
    have h2 := hr.at_ z hz (.map [])
    rw [e] at h2
    have h3 := (hat (.map [])).symm.trans h2
    rw [h1] at h3
    simpa using h3
  obtain ⟨id, till, ls⟩ := z
  dsimp only at e hc
  subst e
  subst hc
  exact hMore id till ls w2 cnt2 hz hlk hrg hlt hg2 hen

abbrev Yx := Nat × Nat
def yv (L : LL (List Lim)) (x : Yx) : Array Value := #[.agg #[.int .i64 (x.1 : Nat), .int .i64 ((fnd L x.1).2.1 : Nat), .slice (la x.2 (fnd L x.1).2.2.length) (fnd L x.1).2.2.length (fnd L x.1).2.2.length]]
/-- what is known of what is handed out: which it is, and that its limits lie in new memory -/
def Fr (B : Nat) (L : LL (List Lim)) (T : List Nat) (ow : List Nat) (pre : List Yx) (x : Yx) (W : World) : Prop :=
  pre.length < T.length ∧ (pre ++ [x]).map (·.1) = T.take (pre.length + 1) ∧ x.1 ∈ T ∧ ((fnd L x.1).2.2 ≠ [] → B ≤ x.2 ∧ x.2 ∉ ow ∧ LBlk W x.2 (fnd L x.1).2.2)

theorem three_new (g : Nat) (W : World) (t : TypeId) (x y z : Value) (hg : g = W.heap.size) : ∀ j u, [x, y, z][j]? = some u → (W.alloc (.cells #[x, y, z] t)).cell? ((⟨g, 0, none⟩ : Addr).add j) = some u := by
  subst hg
  intro j u hu
  have h := heap_alloc_new W (.cells #[x, y, z] t)
  have e : (⟨W.heap.size, 0, none⟩ : Addr).add j = ⟨W.heap.size, j, none⟩ := by
    unfold Addr.add
    by_cases hj : j = 0
    · subst hj; rfl
    · simp [hj]
  rw [e, cell_of_row _ _ _ _ _ _ h, ← hu]
  simp
theorem three_one (a b : Int) (A : Option Addr) (n c : Nat) : ∀ u ∈ [Value.int .i64 a, .int .i64 b, .slice A n c], u.oneCell' = true := by
  intro u hu
  simp only [List.mem_cons, List.not_mem_nil, or_false] at hu
  rcases hu with rfl | rfl | rfl <;> rfl
theorem row_not {w : World} {B k m : Nat} {T : TypeId} {v : Value} {xs : List Value} (h : w.ownsRow B T 3 v k xs) (hm : m < B) : some m ≠ v.ownBlock := fun e => by have := (World.ownsRow.lt h m e.symm).1; omega
theorem due_zero : ∃ i, Try.prog.info? 38 = some i ∧ i.zero = some zdue ∧ i.size = 3 ∧ i.bytes = 40 := entry_parts

set_option maxRecDepth 100000 in
set_option maxHeartbeats 4000000 in
theorem sorted_each {w : World} {own : List Nat} {v p m last : Nat} {L : LL (List Lim)} {bl : Nat → Nat} {rs : List Nat} {D : Dt} (h : In w own v p m last L bl rs D) (e : Nat) (b0 b1 b2 gc : Nat)
    (h0 : Box w b0 65 #[.pointer (some ⟨p, 0, none⟩)]) (h1 : Box w b1 3 #[.int .i64 (e : Nat)]) (h2 : Box w b2 89 #[.func (.func gc) #[] #[]])
    (T : List Nat) (hTL : ∀ id ∈ T, ∃ x ∈ L, x.1 = id)
    (hsort : ∀ (ids : List Nat) (g cap : Nat) (W : World), ids.Perm (gone L e) → DRow W g L bl ids → Calls Try.prog 47 #[.slice (some ⟨g, 0, none⟩) ids.length cap, .func (.func gc) #[] #[]] W fun e w' => e = .returned (.tuple #[]) ∧ DRow w' g L bl T ∧ W.grownBy w' (some g))
    (hTn : T.length = (gone L e).length) (n : Nat) (hn : 2 ≤ n) :
    Each Fence.wide n Try.prog 46 #[.pointer (some ⟨b0, 0, none⟩), .pointer (some ⟨b1, 0, none⟩), .pointer (some ⟨b2, 0, none⟩)] (yv L) (Fr w.heap.size L T) (fun xs => xs.map (·.1) = T) (fun ow => ∀ r ∈ rs, r ∉ ow) w := by
  intro l J Jx ow W hW how hRd hJ hJx hY hJ0
  have HW := Lib.hid (h.below hW)
  have H := Lib.hid h
  have HTN := Lib.hid hTn
  have HSO := Lib.hid hsort
  have HTL := Lib.hid hTL
  clear hTn hsort hTL
  have B0 := h0.keep hW
  have B1 := h1.keep hW
  have B2 := h2.keep hW
  have hc0 := B0.cell 0
  have hc1 := HW.out.mc
  obtain ⟨i0, hi, hz0, hz1, hz2⟩ := due_zero
  simp only [List.getElem?_toArray, List.getElem?_cons_zero] at hc0
  refine callsIn_of_wp Try.func46 rfl trivial ?_ rfl
  simp only [Try.ntmps46, List.size_toArray, List.length_cons, List.length_nil, Nat.reduceAdd, Nat.reduceSub, Array.replicate_succ, Array.replicate_zero, List.push_toArray, List.append_toArray, List.nil_append, List.cons_append]
  gi_wp2_with (first
    | (gi_at_range; refine wpListIn_range_own _ rfl _ 66 rfl 3 38 klaw Try.underlying66 _ m _ _ rfl HW.out.map ?_; intro w0 hrg0 hg0 hs0)
    | gi_in)
  go_frame
  clear hs0
  gi_loopw [5] (fun s5 wr => Hid (∃ (left : Lit → Bool) (cnt : Nat) (ids : List Nat), wr.ranges Try.prog 3 elem m W.heap.size L.length D left cnt ∧ ids.Perm (got L e left) ∧ wr.ownsRow W.heap.size 38 3 s5 ids.length (flat L bl ids) ∧ RowKit.Below W.heap.size W wr))
    (fun _ wr => wr.rangeLeft m W.heap.size)
  case atStart =>
    refine Lib.hid ⟨_, _, [], hrg0, ?_, World.ownsRow_nil _ _ _ _, (RowKit.Below.refl _ _).grown hg0 (Nat.le_refl _) (fun k hk => by cases hk)⟩
    rw [got_start fun x hx => (HW.out.reads.has x.1).2 ⟨x, hx, rfl⟩]
  case round =>
    obtain ⟨left, cnt, ids, hrg, hp, hrow, hb⟩ := hrel.out
    gi_wp2_with (first
      | (gi_at_next; refine wpListIn_next_dues rfl _ rfl rfl hrg HW.out.reads ?_ ?_)
      | gi_in)
    · intro hl0
      rw [got_done hl0] at hp
      have cf := (B2.keep hb).cell 0
      simp only [List.getElem?_toArray, List.getElem?_cons_zero] at cf
      rcases hrow.2 with ⟨rfl, hn0⟩ | ⟨g, cap, cur, rfl, hbase, hgb, h1', h2', h3', h4'⟩
      · have hT0 : T = [] := List.eq_nil_of_length_eq_zero (by rw [HTN.out, ← hp.length_eq]; exact hn0)
        subst hT0
        have hJe := Lib.hid (hJ ow [] W wr hJ0 hb)
        have hsn : ∀ W', Calls Try.prog 47 #[.slice none 0 0, .func (.func gc) #[] #[]] W' fun e w' => e = .returned (.tuple #[]) ∧ w' = W' := fun W' => AnyF.slices_SortFunc_none { sortLays with } none 0 _ W'
        clear hrow hrel hl0 hrg hp
        gi_wp2_with (first
          | (refine ⟨trivial, fun _ => by omega, ?_⟩; gi_at_call 47; refine (callsIn_wide.2 (hsn _)).mono ?_; rintro e' w4 ⟨rfl, rfl⟩)
          | gi_in)
        gi_loopw [32] (fun i W2 => i = .int .i64 0 ∧ Hid (J ow [] W2)) (fun _ _ => 0)
        case atStart => exact ⟨rfl, hJe⟩
        case round =>
          obtain ⟨rfl, hJ2⟩ := hrel
          gi_wp2_with (first | gi_in)
          go_end0
          exact ⟨⟨_, rfl⟩, .inl ⟨ow, [], rfl, hJ2.out⟩⟩
      · have hs4 := HSO.out ids g cap wr hp ⟨cur, hgb, h4'⟩
        have hlen : ids.length = T.length := by rw [HTN.out, hp.length_eq]
        rw [hlen] at hs4
        have HS4 := Lib.hid hs4
        have HB := Lib.hid hb
        have HBG := Lib.hid hbase
        have HGL := Lib.hid (Array.getElem?_eq_some_iff.1 hgb).1
        clear hrow hrel hl0 hrg hs4 hgb h1' h2' h3' h4' hbase hb hp
        rw [hlen]
        gi_wp2_with (first
          | (refine ⟨trivial, fun _ => by omega, ?_⟩; gi_at_call 47; refine (callsIn_wide.2 HS4.out).mono ?_; rintro e' w4 ⟨rfl, hd4, hg4⟩)
          | gi_in)
        have hT1 : T.length ≤ 1000 := by
          rw [HTN.out]
          unfold gone
          rw [List.length_map]
          exact Nat.le_trans (List.length_filter_le _ _) HW.out.good.few
        have hB4 := HB.out.grown hg4 HB.out.size (fun k e => by cases e; exact HBG.out)
        have hR4 : Hid (J ow [] w4 ∧ DRow w4 g L bl T ∧ (∀ x ∈ L, x.2.2 ≠ [] → LBlk w4 (bl x.1) x.2.2) ∧ g ∉ ow ∧ (∀ r ∈ rs, r ∉ ow) ∧ (∀ y ∈ ow, y < w4.heap.size) ∧ w.heap.size ≤ w4.heap.size) := Lib.hid
          ⟨hJ ow [] W w4 hJ0 hB4, hd4, fun x hx h0 => ((HW.out.lims x hx h0).2.below hB4), fun hc => by have := how g hc; have := HBG.out; omega, hRd, fun y hy => Nat.lt_of_lt_of_le (how y hy) hB4.size, Nat.le_trans hW.size hB4.size⟩
        clear hd4 hg4 hB4 HS4
        gi_loopw [32] (fun i W2 => ∃ k : Nat, i = .int .i64 (k : Nat) ∧ k ≤ T.length ∧ Hid (∃ (ow1 : List Nat) (pre : List Yx), pre.length = k ∧ pre.map (·.1) = T.take k ∧ J ow1 pre W2 ∧ DRow W2 g L bl T ∧ (∀ x ∈ L, x.2.2 ≠ [] → LBlk W2 (bl x.1) x.2.2) ∧ g ∉ ow1 ∧ (∀ r ∈ rs, r ∉ ow1) ∧ (∀ y ∈ ow1, y < W2.heap.size) ∧ w.heap.size ≤ W2.heap.size)) (fun i _ => T.length - (intOf i).toNat)
        case atStart => exact ⟨0, rfl, Nat.zero_le _, Lib.hid ⟨ow, [], rfl, rfl, hR4.out⟩⟩
        case round =>
          obtain ⟨k, rfl, hk, hK⟩ := hrel
          by_cases hlt : k < T.length
          · have hlt2 : decide ((k : Int) < (T.length : Int)) = true := decide_eq_true (by omega)
            obtain ⟨ow1, pre, hpl, hpm, hJ2, hd2, hl2, hgo, hro, hbo, hwo⟩ := hK.out
            obtain ⟨⟨id, till, ls⟩, hz, hze⟩ := HTL.out (T[k]) (List.getElem_mem hlt)
            have hfz : fnd L id = (id, till, ls) := fnd_is HW.out.good hz
            obtain ⟨c0, c1, c2⟩ := hd2.at_ k hlt
            dsimp only at hze
            rw [← hze] at c0 c1 c2
            rw [hfz] at c1 c2
            dsimp only at c1 c2
            have hmem : id ∈ T := hze ▸ List.getElem_mem hlt
            have htk : T.take (k + 1) = T.take k ++ [id] := by rw [List.take_add_one, List.getElem?_eq_getElem hlt, hze]; rfl
            have hcp := fun (W' : World) (hb' : RowKit.Below wr.heap.size wr W') => copied_calls (S := fun _ => True) (id : Nat) (till : Nat) (la (bl id) ls.length) ls.length ls W' (LBlk.lims fun h0 => ⟨trivial, (hl2 _ hz h0).below hb'⟩) (HW.out.fits _ hz)
            have hb5 : RowKit.Below wr.heap.size wr (wr.alloc (.cells #[.int .i64 (id : Nat), .int .i64 (till : Nat), .slice (la (bl id) ls.length) ls.length ls.length] 38)) := (RowKit.Below.refl _ _).alloc (Nat.le_refl _) _
            have HC := Lib.hid (hcp _ hb5)
            have HB5 := Lib.hid hb5
            have HFZ := Lib.hid hfz
            have HTK := Lib.hid htk
            have HPL := Lib.hid hpl
            have HPM := Lib.hid hpm
            have HZ := Lib.hid hze
            clear hcp hb5 hfz htk hpl hpm hK hze
            gi_wp2_with (first
              | (refine ⟨trivial, fun _ => by omega, ?_⟩; gi_at_call 31; refine (callsIn_wide.2 HC.out).mono ?_; rintro e' w6 ⟨g2, rfl, hlb, hb6⟩; have hb26 := HB5.out.trans (hb6.mono HB5.out.size); have hJ6 := hJ _ _ _ w6 hJ2 hb26; have HLB := Lib.hid hlb; clear hlb; have hFr : Fr w.heap.size L T ow1 pre (id, g2) w6 := ⟨by rw [HPL.out]; omega, by rw [List.map_append, HPM.out, HPL.out, HTK.out]; rfl, hmem, fun h0 => by (rw [HFZ.out] at h0 ⊢; obtain ⟨q1, q2⟩ := HLB.out h0; simp at q1; exact ⟨by omega, fun hc => by have := hbo _ hc; omega, q2⟩)⟩; obtain ⟨fn, tmps, assign, body, hy, hR⟩ := hY ow1 pre (id, g2) w6 hJ6 hFr (fun y hy => Nat.lt_of_lt_of_le (hbo y hy) hb26.size); simp only [yv, HFZ.out] at hy; have HR6 := Lib.hid hR; have HB26 := Lib.hid hb26; clear hR hFr hJ6 hb26 hb6)
              | gi_in)
            refine ⟨fun _ => by omega, HR6.out.mono ?_⟩
            rintro e' W3 (⟨rfl, ow2, hJ3, hK3, hlt3⟩ | ⟨rfl, ow2, hJx3⟩)
            · have hw1 : IntKind.i64.wrap ((k : Int) + 1) = (k : Int) + 1 := IntWalk.i64_in _ (by omega)
              have hz6 := HB26.out.size
              have hz3 := hK3.1.size
              have hgl := hd2.lt
              have hKI : Hid (∃ (ow1 : List Nat) (pre : List Yx), pre.length = k + 1 ∧ pre.map (·.1) = T.take (k + 1) ∧ J ow1 pre W3 ∧ DRow W3 g L bl T ∧ (∀ x ∈ L, x.2.2 ≠ [] → LBlk W3 (bl x.1) x.2.2) ∧ g ∉ ow1 ∧ (∀ r ∈ rs, r ∉ ow1) ∧ (∀ y ∈ ow1, y < W3.heap.size) ∧ w.heap.size ≤ W3.heap.size) := Lib.hid
                ⟨ow2, pre ++ [(id, g2)], by simp [HPL.out], by rw [List.map_append, HPM.out, HTK.out]; rfl, hJ3,
                  hd2.of ((hK3.1.block g (by omega) hgo).trans (HB26.out.block g hgl)),
                  fun x hx h0 => (hl2 x hx h0).of ((hK3.1.block _ (by have := (hl2 x hx h0).lt; omega) (hro _ (H.out.lims x hx h0).1)).trans (HB26.out.block _ (hl2 x hx h0).lt)),
                  fun hc => (hK3.2 g hc).elim hgo (fun h => by omega), fun r hr hc => (hK3.2 r hc).elim (hro r hr) (fun h => by have := (H.out.ro r hr).lt; omega), hlt3, by omega⟩
              clear hJ3 hK3 hlt3 hd2 hl2 hz6 hz3 hgl
              gi_wp2
              go_roundw
              case rel => exact ⟨k + 1, by go_num, by omega, hKI⟩
              case measure => simp [intOf]; omega
            · gi_wp2
              refine bodyPost_ret (results_none rfl _ _ _) rfl ?_
              exact ⟨⟨_, rfl⟩, .inr ⟨ow2, _, hJx3⟩⟩
          · have hlt2 : decide ((k : Int) < (T.length : Int)) = false := decide_eq_false (by omega)
            have hkt : k = T.length := by omega
            gi_wp2_with (first | gi_in)
            go_end0
            obtain ⟨ow1, pre, hpl, hpm, hJ2, -⟩ := hK.out
            exact ⟨⟨_, rfl⟩, .inl ⟨ow1, pre, by rw [hpm, hkt, List.take_length], hJ2⟩⟩
    · intro id till ls w2 cnt2 hz hlk hrg2 hlt hg2 hen
      have k2 : RowKit.Below W.heap.size W w2 := hb.grown hg2 hb.size (fun k e => by cases e; exact Nat.le_refl _)
      have hrow2 := hrow.kept hg2 (.inr (Ne.symm (row_ne_iter hrow hrg)))
      have ce := ((B1.keep k2).alloc (.cells #[.int .i64 (id : Nat), .int .i64 (till : Nat), .slice (la (bl id) ls.length) ls.length ls.length] 38)).cell 0
      simp only [List.getElem?_toArray, List.getElem?_cons_zero] at ce
      have hstep := got_step HW.out.good hz hlk hp
      have hidl : ids.length ≤ 1000 := by
        rw [hp.length_eq]
        unfold got
        rw [List.length_map]
        exact Nat.le_trans (List.length_filter_le _ _) HW.out.good.few
      have hfe : flat L bl (ids ++ [id]) = flat L bl ids ++ [.int .i64 (id : Nat), .int .i64 (till : Nat), .slice (la (bl id) ls.length) ls.length ls.length] := by
        rw [flat_append]
        have hf := fnd_is HW.out.good hz
        dsimp only at hf
        simp only [flat, enc, hf, List.append_nil]
      have HM := Lib.hid (show cnt2 < wr.rangeLeft m W.heap.size by rw [hrg.left_eq]; exact hlt)
      have HK := Lib.hid k2
      have HR := Lib.hid hrow2
      have HG := Lib.hid hrg2
      have HS := Lib.hid hstep
      have HF := Lib.hid hfe
      clear k2 hrow2 hrg2 hstep hlk hz hlt hg2 hrow hrg hp hb hfe
      by_cases ht : till ≤ e
      · have t1 : decide ((till : Int) ≤ (e : Int)) = true := decide_eq_true (by omega)
        rw [if_pos ht] at HS
        gi_wp2_with (first
          | (gi_at_builtin; refine wpListIn_append_own _ rfl _ _ 27 rfl W.heap.size 38 i0 zdue 3 40 Try.underlying27 hi hz0 hz1 hz2 rfl (by decide) _ _ _ rfl ((HR.out.alloc _).alloc _) ⟨w2.heap.size + 1, 0, none⟩ 1 1 [.int .i64 (id : Nat), .int .i64 (till : Nat), .slice (la (bl id) ls.length) ls.length ls.length] rfl rfl (three_new _ _ _ _ _ _ (by simp)) (three_one _ _ _ _ _) (by unfold maxLen; omega) (by omega) (by have := HK.out.size; simp; omega) ?_; intro v3 w3 hown3 hgr3 _)
          | gi_in)
        have hR2 := (HR.out.alloc (.cells #[.int .i64 (id : Nat), .int .i64 (till : Nat), .slice (la (bl id) ls.length) ls.length ls.length] 38)).alloc (.cells #[.int .i64 (id : Nat), .int .i64 (till : Nat), .slice (la (bl id) ls.length) ls.length ls.length] 38)
        have hG2 := (HG.out.alloc (.cells #[.int .i64 (id : Nat), .int .i64 (till : Nat), .slice (la (bl id) ls.length) ls.length ls.length] 38)).alloc (.cells #[.int .i64 (id : Nat), .int .i64 (till : Nat), .slice (la (bl id) ls.length) ls.length ls.length] 38)
        have hG3 := hG2.kept hgr3 (row_not hR2 HW.out.map.lt) (row_ne_iter hR2 hG2)
        have hK2 : RowKit.Below W.heap.size W ((w2.alloc (.cells #[.int .i64 (id : Nat), .int .i64 (till : Nat), .slice (la (bl id) ls.length) ls.length ls.length] 38)).alloc (.cells #[.int .i64 (id : Nat), .int .i64 (till : Nat), .slice (la (bl id) ls.length) ls.length ls.length] 38)) := (HK.out.alloc HK.out.size _).alloc (by have := HK.out.size; simp; omega) _
        have hK3 := hK2.grown hgr3 hK2.size (fun k e => (World.ownsRow.lt hR2 k (show u5.ownBlock = some k from e)).1)
        go_roundw
        case rel =>
          refine Lib.hid ⟨_, cnt2, ids ++ [id], hG3, HS.out, ?_, hK3⟩
          rw [HF.out, List.length_append]
          exact hown3
        case measure => rw [hG3.left_eq]; exact HM.out
      · have t1 : decide ((till : Int) ≤ (e : Int)) = false := decide_eq_false (by omega)
        rw [if_neg ht] at HS
        gi_wp2_with (first | gi_in)
        have hG2 := HG.out.alloc (.cells #[.int .i64 (id : Nat), .int .i64 (till : Nat), .slice (la (bl id) ls.length) ls.length ls.length] 38)
        go_roundw
        case rel => exact Lib.hid ⟨_, cnt2, ids, hG2, HS.out, HR.out.alloc _, HK.out.alloc HK.out.size _⟩
        case measure => rw [hG2.left_eq]; exact HM.out
end Go.Proofs.Ytplinlgafgfepaa.Ld
