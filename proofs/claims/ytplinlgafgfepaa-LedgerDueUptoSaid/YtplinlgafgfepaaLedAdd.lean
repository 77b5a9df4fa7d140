/-
  A due is written down; a copy of the ledger.
-/
import Derived.Test.YtplinlgafgfepaaLedDud
namespace Go.Proofs.Ytplinlgafgfepaa.Ld
open Go.RowKit Go.Maps Pr Go.Shelf

section
variable {w w' : World} {own : List Nat} {v p m last : Nat} {L : LL (List Lim)} {bl : Nat → Nat} {rs : List Nat} {D : Dt}
/-- one due more -/
theorem In.more (h : In w own v p m last L bl rs D) {till g n : Nat} {ls : List Lim} (ht : till ≤ 9007199254740992) (hlast : last < 4611686018427387904) (hlen : L.length < 1000) (hls : ls.length ≤ 1048576) (k : Only [p, m] w w')
    (hP : Box w' p 68 #[.int .i64 ((last + 1 : Nat) : Int), .map (some m)]) (hg : ls ≠ [] → w.heap.size ≤ g ∧ LBlk w' g ls) (hm : w'.ownsMap Try.prog 3 elem m n (D.put (klit ((last + 1 : Nat) : Int)) (.held (sval (last + 1, till, ls) g)))) :
    In w' (v :: p :: m :: (if ls = [] then rs else g :: rs)) v p m (last + 1) (L ++ [(last + 1, till, ls)]) (fun i => if i = last + 1 then g else bl i) (if ls = [] then rs else g :: rs) (D.put (klit ((last + 1 : Nat) : Int)) (.held (sval (last + 1, till, ls) g))) ∧
      Kept own w (v :: p :: m :: (if ls = [] then rs else g :: rs)) w' := by
  have hlo : ∀ x ∈ L, x.1 ≠ last + 1 := fun x hx => by have := (h.good.fits x hx).2.1; omega
  have hgood : Good (last + 1) (L ++ [(last + 1, till, ls)]) := by
    refine ⟨?_, ?_, by simp; omega⟩
    · rw [List.pairwise_append]
      refine ⟨h.good.rise, List.pairwise_singleton _ _, fun a ha b hb => ?_⟩
      rw [List.mem_singleton] at hb
      subst hb
      have := (h.good.fits a ha).2.1
      show a.1 < last + 1
      omega
    · intro x hx
      rcases List.mem_append.1 hx with hx | hx
      · have := h.good.fits x hx; omega
      · rw [List.mem_singleton] at hx
        subst hx
        refine ⟨?_, ?_, ?_⟩ <;> simp <;> omega
  have hI : I64 ((last + 1 : Nat) : Int) := by unfold I64; omega
  have hr : Reads (D.put (klit ((last + 1 : Nat) : Int)) (.held (sval (last + 1, till, ls) g))) (L ++ [(last + 1, till, ls)]) (fun i => if i = last + 1 then g else bl i) := by
    have := h.reads.put (L' := L ++ [(last + 1, till, ls)]) (bl' := fun i => if i = last + 1 then g else bl i) (y := (last + 1, till, ls)) h.map.isMap hI hlo (fun x => by simp) (fun x hx => if_neg (hlo x hx))
    simpa using this
  have hblk : ∀ k2, k2 < w.heap.size → k2 ≠ p → k2 ≠ m → w'.heap[k2]? = w.heap[k2]? := fun k2 hk h1 h2 => k.block k2 hk (by simp [h1, h2])
  have hro : ∀ r ∈ (if ls = [] then rs else g :: rs), Ro w' r := fun r hr => by
    by_cases h0 : ls = []
    · rw [if_pos h0] at hr
      exact (h.ro r hr).of (hblk r (h.ro r hr).lt (h.nrp hr) (h.nrm hr))
    · rw [if_neg h0] at hr
      rcases List.mem_cons.1 hr with rfl | hr
      · exact (hg h0).2.ro
      · exact (h.ro r hr).of (hblk r (h.ro r hr).lt (h.nrp hr) (h.nrm hr))
  refine ⟨⟨hgood, by omega, fun x hx => ?_, rfl, ?_, hP, tight hm hr hgood.rise, hr, fun x hx h0 => ?_, hro⟩, ?_, fun x hx => ?_, fun x hx hr => ?_⟩
  · rcases List.mem_append.1 hx with hx | hx
    · exact h.fits x hx
    · rw [List.mem_singleton] at hx
      subst hx
      exact hls
  · exact (hblk v h.boxV.lt h.nvp h.nvm).trans h.boxV
  · rcases List.mem_append.1 hx with hx | hx
    · obtain ⟨h1, h2⟩ := h.lims x hx h0
      rw [if_neg (hlo x hx)]
      refine ⟨?_, h2.of (hblk _ h2.lt (h.nrp h1) (h.nrm h1))⟩
      by_cases h3 : ls = []
      · rw [if_pos h3]; exact h1
      · rw [if_neg h3]; exact List.mem_cons_of_mem _ h1
    · rw [List.mem_singleton] at hx
      subst hx
      dsimp only at h0 ⊢
      rw [if_pos rfl, if_neg h0]
      exact ⟨by simp, (hg h0).2⟩
  · exact k.mono fun x hx => .inl (by simp at hx; rcases hx with rfl | rfl; exact h.mp; exact h.mm)
  · rw [h.all]
    by_cases h0 : ls = []
    · rw [if_pos h0] at hx
      exact .inl hx
    · rw [if_neg h0] at hx
      simp only [List.mem_cons] at hx ⊢
      rcases hx with hx | hx | hx | hx | hx
      · exact .inl (.inl hx)
      · exact .inl (.inr (.inl hx))
      · exact .inl (.inr (.inr (.inl hx)))
      · subst hx; exact .inr (hg h0).1
      · exact .inl (.inr (.inr (.inr hx)))
  · obtain ⟨cur, fz, h1⟩ := hr
    refine hblk x (Array.getElem?_eq_some_iff.1 h1).1 (fun e => ?_) (ownsMap_blk h.map h1)
    rw [e, show w.heap[p]? = _ from h.boxP] at h1
    simp at h1

set_option maxRecDepth 100000 in
set_option maxHeartbeats 4000000 in
theorem write_calls (h : In w own v p m last L bl rs D) (till : Nat) (A : Option Addr) (cap : Nat) (ls : List Lim) (ht : till ≤ 9007199254740992) (hlast : last < 4611686018427387904) (hlen : L.length < 1000) (hA : Lims (Free own w) w A ls) (hls : ls.length ≤ 1048576) :
    Calls Try.prog 36 #[.pointer (some ⟨p, 0, none⟩), .int .i64 (till : Nat), .slice A ls.length cap] w fun e w' => ∃ own', e = .returned (.int .i64 ((last : Int) + 1)) ∧ At w' own' v (last + 1) (L ++ [(last + 1, till, ls)]) ∧ Kept own w own' w' := by
  have hw1 : IntKind.i64.wrap ((last : Int) + 1) = (last : Int) + 1 := IntWalk.i64_in _ (by omega)
  have c0 := h.lc
  have f0 : w.frozen? ⟨p, 0, none⟩ = false := h.boxP.free 0
  have hB1 : Box (w.setCell ⟨p, 0, none⟩ (.int .i64 ((last : Int) + 1))) p 68 #[.int .i64 ((last : Int) + 1), .map (some m)] := heap_setCell_same _ _ 0 _ _ _ h.boxP
  have hM1 : (w.setCell ⟨p, 0, none⟩ (.int .i64 ((last : Int) + 1))).ownsMap Try.prog 3 elem m L.length D := ownsMap_eq h.map (Below.heap_setCell _ _ _ _ (by simpa using h.npm.symm))
  have hL1 : ∀ W', Below (w.setCell ⟨p, 0, none⟩ (.int .i64 ((last : Int) + 1))).heap.size (w.setCell ⟨p, 0, none⟩ (.int .i64 ((last : Int) + 1))) W' → Lims (fun _ => True) W' A ls := fun W' hb => (hA.goes (T := fun b => b < (w.setCell ⟨p, 0, none⟩ (.int .i64 ((last : Int) + 1))).heap.size) fun b hb' => ⟨Below.heap_setCell _ _ _ _ (fun e => hb'.2 (by simp at e; rw [e]; exact h.mp)), by have := hb'.1; simpa [World.setCell] using this⟩).goes fun b hb' => ⟨hb.block b hb', trivial⟩
  have hO1 : Only [p, m] w (w.setCell ⟨p, 0, none⟩ (.int .i64 ((last : Int) + 1))) := (Only.refl _ _).set (by simp) _
  have d0 := hB1.cell 0
  have d1 := hB1.cell 1
  simp only [List.getElem?_toArray, List.getElem?_cons_zero, List.getElem?_cons_succ] at d0 d1
  have H := Lib.hid h
  have HL := Lib.hid hL1
  have HO := Lib.hid hO1
  have HB1 := Lib.hid hB1
  have HM := Lib.hid hM1
  have HNP := Lib.hid h.npm
  clear h hA hL1 hO1 hB1 hM1
  go_enter Try.func36, Try.ntmps36
  go_wp2_with fail
  generalize w.setCell ⟨p, 0, none⟩ (.int .i64 ((last : Int) + 1)) = W1 at d0 d1 HL HO HB1 HM ⊢
  go_region_held3 (fun w' => w'.cell? ⟨p, 0, none⟩ = some (.int .i64 ((last : Int) + 1)) ∧ w'.cell? ⟨p, 1, none⟩ = some (.map (some m))) (go_keep) (first | (go_at_call 31; refine (copied_calls (S := fun _ => True) _ _ A cap ls _ (HL.out _ (Below.refl _ _).drew) hls).mono ?_; rintro e w2 ⟨g, rfl, hlb, hb2⟩; have hb2' := (Below.refl W1.heap.size W1).drew.trans hb2; have x0 := (hb2'.cell (p := ⟨p, 0, none⟩) HB1.out.lt).trans d0; have x1 := (hb2'.cell (p := ⟨p, 1, none⟩) HB1.out.lt).trans d1; obtain ⟨w3, hrun, ho3, ht3⟩ := World.ownsMap.store (w := w2) (ownsMap_eq HM.out (hb2'.block m HM.out.lt)) klaw Try.underlying66 (by unfold maxLen; omega) (key := .int .i64 ((last : Int) + 1)) (val := .agg #[.int .i64 ((last : Int) + 1), .int .i64 (till : Nat), .slice (la g ls.length) ls.length ls.length]) (kl := klit ((last : Int) + 1)) (key_of (by unfold I64; omega)) rfl; have hP3 : Box w3 p 68 #[.int .i64 ((last : Int) + 1), .map (some m)] := (HB1.out.keep hb2').turned (turned_only ht3) HNP.out; have z0 := hP3.cell 0; have z1 := hP3.cell 1; simp only [List.getElem?_toArray, List.getElem?_cons_zero, List.getElem?_cons_succ] at z0 z1; have HLB := Lib.hid hlb; have HB2 := Lib.hid hb2'; have HO3 := Lib.hid (And.intro ho3 (And.intro (turned_only ht3) hP3)); clear hlb hb2 hb2' ho3 ht3 hP3))
  go_wp2_with fail
  go_ret
  have k : Only [p, m] w w3 := (HO.out.also (Only.of_below _ HB2.out)).also (HO3.out.2.1.mono (by simp))
  have hg : ls ≠ [] → w.heap.size ≤ g ∧ LBlk w3 g ls := fun h0 => by
    obtain ⟨q1, q2⟩ := HLB.out h0
    have q3 : W1.heap.size ≤ g := q1
    have q4 := HO.out.size
    have q5 := H.out.map.lt
    exact ⟨by omega, q2.of (HO3.out.2.1.block g q2.lt (by rw [List.mem_singleton]; omega))⟩
  obtain ⟨a, b⟩ := H.out.more ht hlast hlen hls k HO3.out.2.2 hg HO3.out.1
  exact ⟨_, rfl, ⟨p, m, _, _, _, a⟩, b⟩

set_option maxRecDepth 100000 in
set_option maxHeartbeats 4000000 in
theorem Add_calls (h : In w own v p m last L bl rs D) (till : Int) (A : Option Addr) (cap : Nat) (ls : List Lim) (hlast : last < 4611686018427387904) (hA : Lims (Free own w) w A ls) (hls : ls.length ≤ 1048576) :
    Calls Try.prog 23 #[.pointer (some ⟨v, 0, none⟩), .int .i64 till, .slice A ls.length cap] w fun e w' => ∃ own', e = .returned (.tuple #[.int .i64 (addI L last), .int .i64 (addE L)]) ∧ At w' own' v (addN L last) (Ld.add L last till ls) ∧ Kept own w own' w' := by
  have c1 := h.vc
  have c2 := h.mc
  have hl := fun ty => len_run h ty
  by_cases hf : 1000 ≤ L.length
  · have e1 : addI L last = 0 := by unfold addI; rw [if_pos hf]
    have e2 : addE L = 5 := by unfold addE; rw [if_pos hf]
    have e3 : addN L last = last := by unfold addN; rw [if_pos hf]
    have e4 : Ld.add L last till ls = L := by unfold Ld.add; rw [if_pos hf]
    have t1 : decide ((L.length : Int) ≥ 1000) = true := decide_eq_true (by omega)
    have t2 : decide ((1000 : Int) ≤ (L.length : Int)) = true := decide_eq_true (by omega)
    rw [e1, e2, e3, e4]
    have H := Lib.hid h
    clear h hA e1 e2 e3 e4
    go_enter Try.func23, Try.ntmps23
    go_wp2_with (first | (go_at_call 30; refine (made_calls v p _ c1).mono ?_; rintro e w1 ⟨rfl, rfl⟩))
    go_ret2
    exact ⟨own, rfl, ⟨p, m, bl, rs, D, H.out⟩, Kept.of_below (Below.refl _ _)⟩
  · have e1 : addI L last = (last : Int) + 1 := by unfold addI; rw [if_neg hf]; rfl
    have e2 : addE L = 0 := by unfold addE; rw [if_neg hf]
    have e3 : addN L last = last + 1 := by unfold addN; rw [if_neg hf]
    have e4 : Ld.add L last till ls = L ++ [(last + 1, clip till, ls)] := by unfold Ld.add; rw [if_neg hf]
    have t1 : decide ((L.length : Int) ≥ 1000) = false := decide_eq_false (by omega)
    have t2 : decide ((1000 : Int) ≤ (L.length : Int)) = false := decide_eq_false (by omega)
    rw [e1, e2, e3, e4]
    have HW := Lib.hid (write_calls (h.below (Below.refl w.heap.size w).drew) (clip till) A cap ls (clip_le till) hlast (by omega) (hA.goes fun b hb => ⟨rfl, hb⟩) hls)
    clear h hA e1 e2 e3 e4
    go_enter Try.func23, Try.ntmps23
    go_wp2_with (first | (go_at_call 30; refine (made_calls v p _ c1).mono ?_; rintro e w1 ⟨rfl, rfl⟩))
    go_region_with (first | (go_at_call 35; refine (clamp_calls till _).mono ?_; rintro e w1 ⟨rfl, rfl⟩) | (go_at_call 36; refine HW.out.mono ?_; rintro e w2 ⟨own', rfl, ha, hk⟩; have HH := Lib.hid (And.intro ha hk); clear ha hk))
    all_goals go_wp2_with fail
    all_goals go_ret2
    all_goals exact ⟨own', rfl, HH.out.1, (Kept.of_below (Below.refl _ _).drew).trans HH.out.2⟩
end
end Go.Proofs.Ytplinlgafgfepaa.Ld
