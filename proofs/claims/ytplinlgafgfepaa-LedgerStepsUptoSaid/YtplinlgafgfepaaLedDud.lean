/-
  What is due is told, and goes.
-/
import Derived.Test.YtplinlgafgfepaaLedAll
namespace Go.Proofs.Ytplinlgafgfepaa.Ld
open Go.RowKit Go.Maps Pr Go.Shelf
attribute [local go_sem] Oper.semAt_some

/-- what is left when these went -/
def wout (L : LL (List Lim)) (ids : List Nat) : LL (List Lim) := L.filter fun x => decide (x.1 ∉ ids)
theorem wout_nil (L : LL (List Lim)) : wout L [] = L := by
  unfold wout
  rw [List.filter_eq_self]
  intro x _
  simp
theorem wout_due {last : Nat} {L : LL (List Lim)} (h : Good last L) (t : Nat) : wout L ((due L t).map (·.1)) = left L t := by
  unfold wout left
  refine List.filter_congr fun x hx => ?_
  refine decide_eq_decide.2 ?_
  simp only [List.mem_map, not_exists, not_and]
  constructor
  · intro hn
    have := hn x
    by_cases hc : x.2.1 ≤ t
    · exact absurd rfl (this (mem_due.2 ⟨hx, hc⟩))
    · omega
  · intro hlt y hy e
    obtain ⟨h1, h2⟩ := mem_due.1 hy
    have := h.same h1 hx e
    subst this
    omega
theorem wout_more (L : LL (List Lim)) (ids : List Nat) (id : Nat) : (wout L (ids ++ [id])).Sublist (wout L ids) ∧ ∀ x, x ∈ wout L (ids ++ [id]) ↔ x ∈ wout L ids ∧ ¬ (x.1 : Int) = (id : Nat) := by
  constructor
  · have e : wout L (ids ++ [id]) = (wout L ids).filter fun x => decide (x.1 ≠ id) := by
      unfold wout
      rw [List.filter_filter]
      refine List.filter_congr fun x _ => ?_
      by_cases h1 : x.1 ∈ ids <;> by_cases h2 : x.1 = id <;> simp [h1, h2]
    rw [e]
    exact List.filter_sublist
  · intro x
    unfold wout
    simp only [List.mem_filter, decide_eq_true_eq, List.mem_append, List.mem_singleton, not_or]
    constructor
    · rintro ⟨h1, h2, h3⟩
      exact ⟨⟨h1, h2⟩, by omega⟩
    · rintro ⟨⟨h1, h2⟩, h3⟩
      exact ⟨h1, h2, by omega⟩

section
variable {w w' : World} {own : List Nat} {v p m last : Nat} {L : LL (List Lim)} {bl : Nat → Nat} {rs : List Nat} {D : Dt}
abbrev lbo (v : Nat) : Obj := .cells #[.pointer (some ⟨v, 0, none⟩)] 25
abbrev sbo : Obj := .cells #[.slice none 0 0] 27

theorem In.near {l : Nat} (h : In w own v p m last L bl rs D) (hn : Near l w w') : In w' own v p m last L bl rs D :=
  h.same fun x hx => by
    have key : ∀ (o : Obj), w.heap[x]? = some o → (∀ r, o ≠ .loop r) → w'.heap[x]? = w.heap[x]? := fun o ho hne => (hn.at_ ho hne).trans ho.symm
    rw [h.all] at hx
    simp only [List.mem_cons] at hx
    rcases hx with rfl | rfl | rfl | hx
    · exact key _ h.boxV (fun r e => by cases e)
    · exact key _ h.boxP (fun r e => by cases e)
    · obtain ⟨es, clock, hb, _⟩ := h.map
      exact key _ hb (fun r e => by cases e)
    · obtain ⟨cur, fz, hb⟩ := h.ro x hx
      exact key _ hb (fun r e => by cases e)
/-- what holds between two rounds -/
def DI (w : World) (own : List Nat) (v p m last : Nat) (L : LL (List Lim)) (bl : Nat → Nat) (rs : List Nat) (B : Nat) (ow1 : List Nat) (pre : List Yx) (W : World) : Prop :=
  ∃ vv D', YR L w.heap.size B (w.heap.size + 1) ow1 pre W vv ∧ Box W w.heap.size 25 #[.pointer (some ⟨v, 0, none⟩)] ∧ In W own v p m last (wout L (pre.map (·.1))) bl rs D' ∧ Only [m] w W ∧ m ∈ ow1 ∧ ∀ y ∈ ow1, y = m ∨ w.heap.size + 1 ≤ y
theorem DI.near {B l : Nat} {ow1 : List Nat} {pre : List Yx} {W W' : World} (h : DI w own v p m last L bl rs B ow1 pre W) (hl : w.heap.size ≤ l) (hn : Near l W W') : DI w own v p m last L bl rs B ow1 pre W' := by
  obtain ⟨vv, D', a, b, c, d, e, f⟩ := h
  exact ⟨vv, D', a.near hn, b.near hn, c.near hn, d.trans hn.1 (fun x hx => .inr (by rw [List.mem_singleton] at hx; omega)), e, f⟩
theorem DI.below {B : Nat} {ow1 : List Nat} {pre : List Yx} {W W' : World} (h : DI w own v p m last L bl rs B ow1 pre W) (hb : Below W.heap.size W W') : DI w own v p m last L bl rs B ow1 pre W' := by
  obtain ⟨vv, D', a, b, c, d, e, f⟩ := h
  exact ⟨vv, D', a.below hb, b.keep hb, c.below hb, d.also (Only.of_below _ hb), e, f⟩

set_option maxRecDepth 100000 in
set_option maxHeartbeats 4000000 in
theorem Due_calls (h : In w own v p m last L bl rs D) (now : Int) :
    Calls Try.prog 22 #[.pointer (some ⟨v, 0, none⟩), .int .i64 now] w fun e w' => ∃ own' A cap, e = .returned (.slice A (due L (clip now)).length cap) ∧ (A = none → cap = 0) ∧ Dues (Out own own' w w') w' A (due L (clip now)) ∧ At w' own' v last (left L (clip now)) ∧ Kept own w own' w' := by
  have hbz : Below w.heap.size w (w.alloc (lbo v)) := (Below.refl _ _).alloc (Nat.le_refl _) _
  have hb0 : Below w.heap.size w ((w.alloc (lbo v)).alloc sbo) := hbz.alloc (by simp) _
  have H0 := Lib.hid (h.below hb0)
  have cz := (h.below hbz).vc
  have c1 := H0.out.vc
  have bV : Box ((w.alloc (lbo v)).alloc sbo) w.heap.size 25 #[.pointer (some ⟨v, 0, none⟩)] := (Box.new w _ _).alloc _
  have bS : Box ((w.alloc (lbo v)).alloc sbo) (w.heap.size + 1) 27 #[.slice none 0 0] := Box.new1 w _ _ _
  have v0 := bV.cell 0
  simp only [List.getElem?_toArray, List.getElem?_cons_zero] at v0
  have H := Lib.hid h
  clear h
  refine (callsIn_wide (n := 6)).1 ?_
  refine callsIn_of_wp_marks Try.func22 rfl trivial ?_ rfl
  simp only [Try.ntmps22, List.size_toArray, List.length_cons, List.length_nil, Nat.reduceAdd, Nat.reduceSub, Array.replicate_succ, Array.replicate_zero, List.push_toArray, List.append_toArray, List.nil_append, List.cons_append]
  gi_wp2_with (first
    | (refine ⟨trivial, ?_⟩; gi_at_call 30; refine (callsIn_wide.2 (made_calls v p _ cz)).mono ?_; rintro e w1 ⟨rfl, rfl⟩)
    | gi_in)
  gi_cut [16] from 10 (fun s16 wc => s16 = seqv (w.heap.size + 1 + 1) ∧ wc = (((((w.alloc (lbo v)).alloc sbo).alloc (o0 p)).alloc (o1 (clip now : Nat))).alloc (o2 40)).drew)
  case first =>
    refine wpIn_mono (Q := NoPanic _) ?_ NoPanic.imp
    gi_region_with (first
      | (refine ⟨trivial, ?_⟩; gi_at_call 35; refine (callsIn_wide.2 (clamp_calls now _)).mono ?_; rintro e w1 ⟨rfl, rfl⟩)
      | (refine ⟨trivial, ?_⟩; gi_at_call 32; refine (callsIn_wide.2 (until_calls p _ _)).mono ?_; rintro e w1 ⟨rfl, rfl⟩)
      | gi_in)
    all_goals
      refine NoPanic.normal ?_
      gi_wp2
      gi_meet
      case rel => exact ⟨rfl, rfl⟩
  case rest =>
    obtain ⟨rfl, rfl⟩ := hcut
    gi_wp2_with (first | gi_in)
    obtain ⟨hb1, -, -, -⟩ := seq_world ((w.alloc (lbo v)).alloc sbo) p (clip now : Nat) 40
    have hE := until_each H0.out (clip now) 5 (by omega)
    simp only [World.size_alloc] at hE
    have HE := Lib.hid hE
    have dV := bV.keep hb1
    have dS := bS.keep hb1
    have hI1 := H0.out.below hb1
    have hb01 := hb0.trans (hb1.mono hb0.size)
    have hsz : (((((w.alloc (lbo v)).alloc sbo).alloc (o0 p)).alloc (o1 (clip now : Nat))).alloc (o2 40)).heap.size = w.heap.size + 5 := by simp
    clear hE bV bS v0 hb1 hb0 hbz cz c1 H0
    generalize (((((w.alloc (lbo v)).alloc sbo).alloc (o0 p)).alloc (o1 (clip now : Nat))).alloc (o2 40)) = W1 at HE hb01 hsz dV dS hI1 ⊢
    have HO := Lib.hid H.out.old
    have HG := Lib.hid H.out.good
    obtain ⟨i0, hi, hz0, hz1, hz2⟩ := due_zero
    refine wpIn_each rfl (by omega) (gf := 46) (lb := #[.pointer (some ⟨w.heap.size + 1 + 1, 0, none⟩), .pointer (some ⟨w.heap.size + 1 + 1 + 1, 0, none⟩), .pointer (some ⟨w.heap.size + 1 + 1 + 1 + 1, 0, none⟩)]) rfl trivial (enters_of Try.func46 (by kernel_rfl) rfl) HE.out (Below.refl _ _).drew (fun _ => rfl)
      [m, w.heap.size + 1] (by intro x hx; simp at hx; have := HO.out m H.out.mm; show x < W1.heap.size; omega) (by intro r hr hc; have := HO.out r (H.out.mr hr); have h2 := H.out.nrm hr; have h3 : W1.drew.heap.size = W1.heap.size := rfl; simp at hc; omega) (DI w own v p m last L bl rs (w.heap.size + 1 + 1 + 1 + 1 + 1)) (fun _ _ _ _ => False) (fun _ _ _ _ h hn => h.near (by show w.heap.size ≤ W1.heap.size + 1; omega) hn) (fun _ _ _ _ _ h _ => h.elim)
      (fun W' hb => DI.below ⟨.slice none 0 0, D, ⟨dS, World.ownsRow_nil _ _ _ _, by simp, by simp, by simp [Value.ownBlock]⟩, dV, by rw [List.map_nil, wout_nil]; exact hI1, Only.of_below [m] hb01, by simp, by simp⟩ ((Below.refl W1.heap.size W1).drew.trans hb)) ?round ?done ?stop
    case round =>
      rintro ow1 pre ⟨id, g⟩ W hDI ⟨hpl, htk, hmem, hlb⟩ hlt hl
      dsimp only at hlb
      obtain ⟨⟨id2, till, ls⟩, hfz⟩ : ∃ d, fnd L id = d := ⟨_, rfl⟩
      obtain ⟨x0, hx0, he0⟩ := List.mem_map.1 hmem
      dsimp only at he0
      have hid : I64 (id : Int) := he0 ▸ H.out.ids (mem_due.1 hx0).1
      have hpl2 : pre.length < 1000 := by
        have h1 := List.length_filter_le (fun x : Du (List Lim) => decide (x.2.1 ≤ clip now)) (srt L)
        have h2 := (srt_perm L).length_eq
        have h3 := HG.out.few
        rw [List.length_map] at hpl
        unfold due at hpl
        omega
      have HF := Lib.hid hfz
      have HL := Lib.hid hlb
      have HDI := Lib.hid (And.intro hDI hlt)
      have HID := Lib.hid hid
      simp only [yv, hfz]
      clear hlb hDI hpl htk hmem hfz hlt hid hx0 he0 x0 dV dS hI1
      gi_wp2_with (first | gi_in)
      refine ⟨(Below.refl _ _).alloc (Nat.le_refl _) _, fun Wb hN hsz2 => ?_⟩
      have y5 := (Box.new W 38 #[.int .i64 (id : Nat), .int .i64 (till : Nat), .slice (la g ls.length) ls.length ls.length]).near hN
      obtain ⟨vv, D', hY, hV, hI, hOn, hmo, hoy⟩ := (HDI.out.1.below ((Below.refl _ _).alloc (Nat.le_refl _) (.cells #[.int .i64 (id : Nat), .int .i64 (till : Nat), .slice (la g ls.length) ls.length ls.length] 38))).near (by show w.heap.size ≤ W1.heap.size + 1; omega) hN
      have hlb2 : (fnd L id).2.2 ≠ [] → w.heap.size + 1 + 1 + 1 + 1 + 1 ≤ g ∧ LBlk Wb g (fnd L id).2.2 := fun h0 => ⟨(HL.out h0).1, ((HL.out h0).2.2.below ((Below.refl _ _).alloc (Nat.le_refl _) (.cells #[.int .i64 (id : Nat), .int .i64 (till : Nat), .slice (la g ls.length) ls.length ls.length] 38))).near hN⟩
      have HSB := Lib.hid (show ∀ y ∈ ow1, y < Wb.heap.size from fun y hy => by have := HDI.out.2 y hy; rw [hsz2]; simp; omega)
      obtain ⟨w3, hrun, hown3, ht3⟩ := World.ownsMap.drop (w := Wb.drew) hI.map klaw Try.underlying66 (key_of HID.out) 0
      have a0 := y5.cell 0
      have v0 := hV.cell 0
      have v1 := hI.vc
      have v2 := hI.mc
      simp only [List.getElem?_toArray, List.getElem?_cons_zero, List.getElem?_cons_succ] at a0 v0
      gi_wp2_with (first | gi_in)
      have hmix : Try.prog.follows .mixedOrders = true := by kernel_rfl
      gi_cut [] from 18 (fun wc => wc = w3)
      case first =>
        gi_region_with_o (first | gi_in)
        all_goals
          gi_wp2
          gi_meet
          case rel => rfl
      case rest =>
        subst hcut
        have k3 : Only [m] Wb wc := (Only.of_below [m] (Below.refl Wb.heap.size Wb).drew).also (turned_only ht3)
        have hmap : ∃ es c, Wb.heap[m]? = some (.map es c) := by
          obtain ⟨es, clock, hb, _⟩ := hI.map
          exact ⟨es, clock, hb⟩
        have hY3 := hY.only k3 hmap
        have hV3 := hV.turned k3 (fun e => by have := HO.out m H.out.mm; omega)
        have y53 := y5.turned k3 (fun e => by have := HO.out m H.out.mm; have := hb01.size; have h4 : W1.drew.heap.size = W1.heap.size := rfl; omega)
        have hmore := wout_more L (pre.map (·.1)) id
        have hI3 := hI.fewer (L' := wout L ((pre ++ [(id, g)]).map (·.1))) (by rw [List.map_append]; exact hmore.1) k3 hown3 (hI.reads.del _ (by rw [List.map_append]; exact hmore.2))
        have hO3 : Only [m] w wc := hOn.also k3
        have hz3 : Wb.heap.size ≤ wc.heap.size := k3.size
        have hlb3 : (fnd L id).2.2 ≠ [] → w.heap.size + 1 + 1 + 1 + 1 + 1 ≤ g ∧ LBlk wc g (fnd L id).2.2 := fun h0 => by
          obtain ⟨q1, q2⟩ := hlb2 h0
          refine ⟨q1, q2.of (k3.block g q2.lt ?_)⟩
          rw [List.mem_singleton]
          have := HO.out m H.out.mm
          omega
        have e0 := y53.cell 0
        have e1 := y53.cell 1
        have e2 := y53.cell 2
        have q0 := hY3.1.cell 0
        simp only [List.getElem?_toArray, List.getElem?_cons_zero, List.getElem?_cons_succ] at e0 e1 e2 q0
        have HH := Lib.hid (And.intro hY3 (And.intro hV3 (And.intro hI3 (And.intro hO3 (And.intro hlb3 (And.intro hz3 (And.intro k3 (And.intro hmo hoy))))))))
        clear hY hV hI hOn hlb2 hown3 ht3 hrun hmap hY3 hV3 y53 hmore hI3 hO3 hz3 hlb3 y5 k3 a0 v0 v1 v2 hN hsz2 HL HDI hl hmo hoy
        have hn0 : w.heap.size ≤ wc.heap.size := HH.out.2.2.2.1.size
        gi_wp2_with (first
          | (gi_at_builtin; refine wpListIn_append_own_at _ rfl _ _ 27 rfl w.heap.size 38 i0 zdue 3 40 Try.underlying27 hi hz0 hz1 hz2 rfl (by decide) vv _ _ rfl (HH.out.1.2.1.alloc _) ⟨wc.heap.size, 0, none⟩ 1 1 [.int .i64 (id : Nat), .int .i64 (till : Nat), .slice (la g ls.length) ls.length ls.length] rfl rfl (three_new _ _ _ _ _ _ rfl) (three_one _ _ _ _ _) (by unfold maxLen; omega) (by omega) (by simp; omega) ?_; intro v4 w4 hown4 hgr4 _ hob4; obtain ⟨g', cap', rfl⟩ := ownsRow_succ hown4; have hb4 := HH.out.1.after hgr4; have s0 := hb4.cell 0; have s1 := hb4.free 0; simp only [List.getElem?_toArray, List.getElem?_cons_zero] at s0; have HO4 := Lib.hid hown4; have HG4 := Lib.hid hgr4; have HOB := Lib.hid hob4; clear hown4 hgr4 hob4 hb4)
          | gi_in)
        have hown4 := HO4.out
        have e3 : [Value.int .i64 (id : Nat), .int .i64 (till : Nat), .slice (la g ls.length) ls.length ls.length] = y3 L (id, g) := by
          unfold y3
          rw [HF.out]
        rw [e3] at hown4
        obtain ⟨hY3, hV3, hI3, hO3, hlb3, hz3, k3, hmo, hoy⟩ := HH.out
        obtain ⟨p1, p2, p3, p4⟩ := hY3.push (x := (id, g)) hY3.1.lt hown4 HG4.out HOB.out hlb3
        have hrow : ∀ k, k < w.heap.size → vv.ownBlock ≠ some k := fun k hk e => by have := (World.ownsRow.lt hY3.2.1 k e).1; omega
        have hVb : vv.ownBlock ≠ some w.heap.size := fun e => by
          obtain ⟨cur, fz, hk⟩ := row_ty hY3.2.1 e
          rw [show wc.heap[w.heap.size]? = _ from hV3] at hk
          simp at hk
        refine ⟨_, ⟨(k3.mono fun y hy => .inl (by rw [List.mem_singleton] at hy; subst hy; exact hmo)).also p2.1, fun y hy => (p2.2 y hy).imp (fun h => h) fun h => Nat.le_trans hz3 h⟩, ⟨_, _, p1, ?_, hI3.same fun y hy => ?_, ?_, List.mem_cons_of_mem _ hmo, fun y hy => ?_⟩, fun y hy => p3 y hy ?_⟩
        · exact (p4 w.heap.size hV3.lt (by omega) hVb).trans hV3
        · have h5 := HO.out y hy
          exact p4 y (by omega) (by omega) (hrow y h5)
        · exact hO3.trans p2.1 fun y hy => (hoy y hy).elim (fun e => .inl (by simp [e])) (fun h => .inr (by omega))
        · rcases p2.2 y hy with h | h
          · exact hoy y h
          · exact .inr (by have := hY3.1.lt; omega)
        · rcases List.mem_cons.1 hy with rfl | hy
          · exact .inr rfl
          · exact .inl (by have := HSB.out y hy; omega)
    case done =>
      rintro Dd ow1 xs W rfl hS hDI hK
      obtain ⟨vv, D', hY, hV, hI, hOn, hmo, hoy⟩ := hDI
      rw [hS, wout_due HG.out] at hI
      have q0 := hY.1.cell 0
      simp only [List.getElem?_toArray, List.getElem?_cons_zero] at q0
      gi_wp2_with (first | gi_in)
      have hne : ∀ k : Nat, (∃ (cur : Array Value) (fz : Nat × Nat) (t : TypeId), W.heap[k]? = some (.cells cur t fz)) → (W.putObj W1.heap.size (.deferred none)).heap[k]? = W.heap[k]? := fun k ⟨cur, fz, t, hk⟩ => World.putObj_heap_other (fun e => by
        subst e
        rw [show W.heap[W1.heap.size]? = _ from hK] at hk
        cases hk)
      obtain ⟨A, cap, rfl, hn, hdu⟩ := hY.dues (W' := W.putObj W1.heap.size (.deferred none)) (S := Out own own w (W.putObj W1.heap.size (.deferred none))) (due L (clip now)) hS (fun d hd => fnd_is HG.out (mem_due.1 hd).1) hne (fun k hk h => out_new HO.out (by omega) hk)
      have hkF : Only [m] w (W.putObj W1.heap.size (.deferred none)) := hOn.trans (only_putObj W W1.heap.size _) (fun x hx => .inr (by rw [List.mem_singleton] at hx; omega))
      refine ⟨by simp, .inl ⟨_, _, rfl, run_takeDeferred hK, ?_⟩⟩
      exact ⟨_, results_tmp rfl _ _ _, own, A, cap, rfl, hn, hdu, ⟨p, m, bl, rs, D', hI.same fun y hy => World.putObj_heap_other (by have := HO.out y hy; have h4 : W1.drew.heap.size = W1.heap.size := rfl; omega)⟩, H.out.kept_m hkF⟩
    case stop =>
      rintro Dd c ow1 pre W rfl h hK
      exact h.elim
end
end Go.Proofs.Ytplinlgafgfepaa.Ld
