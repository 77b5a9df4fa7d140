/-
  add, put.
-/
import Derived.Test.YtdnaecmihgcelaaTabH
import Derived.Deep.RegionLaw
namespace Go.Proofs.Ytdnaecmihgcelaa.Tb
open Go.RowKit

theorem Pow.double {M : Nat} (h : Pow M) (hl : M < 20004) : Pow (2 * M) := by
  obtain ⟨k, h1, h2, rfl⟩ := h
  refine ⟨k + 1, by omega, ?_, by rw [Nat.pow_succ]; omega⟩
  rcases Nat.lt_or_ge k 15 with h3 | h3
  · omega
  · have : k = 15 := by omega
    subst this
    simp at hl

/-- behind the append -/
def AddB (w : World) (L : Lay) (S : Sm) (key : ByteArray) (v : Int) (wc : World) : Prop :=
  ∃ g cap, At wc ⟨L.ob, g, L.pb, cap⟩ (S.added key (Hs.sum key.data.toList) v) ∧ Only L.own w wc ∧ (g = L.eb ∨ w.heap.size ≤ g)

theorem made_get (n i : Nat) (h : i < n) : (madeCells #[.int .i64 0] n)[i]? = some (.int .i64 ((0 : Nat) : Int)) := by
  rw [← Array.getElem?_toList, toList_madeCells_one, List.getElem?_replicate, if_pos h]; rfl
theorem make_ints (w : World) (M : Nat) (hM : M ≤ 32768) : (Instr.makeSlice 73 (.int .i64 (2 * (M : Int))) (.int .i64 (2 * (M : Int)))).run Try.prog w = .ok (.slice (some ⟨w.heap.size, 0, none⟩) (2 * M) (2 * M)) (w.alloc (.cells (madeCells #[.int .i64 0] (2 * M)) 3)) := by
  have hinfo : (Try.prog.info? 3).map (fun i => (i.zero, i.size, i.bytes)) = some (some (.int .i64 0), 1, 8) := by kernel_rfl
  obtain ⟨i, h, a, b, c⟩ := info_parts hinfo
  have := run_make (P := Try.prog) w 73 3 i _ Try.underlying73 h a .i64 .i64 (2 * (M : Int)) (2 * (M : Int)) (by omega) (Int.le_refl _) (by rw [c]; omega) (by omega)
  have e : (2 * (M : Int)).toNat = 2 * M := by omega
  rw [e, b, Nat.mul_one] at this
  exact this
theorem Seats.none_ {M : Nat} {f : Nat → Nat} : Seats M f (fun _ => 0) (fun j => 1 ≤ j ∧ j < 1) :=
  ⟨fun i h => by omega, fun i h => by omega, fun p _ h => absurd rfl h, fun i h => by omega, fun p q _ _ _ h => absurd rfl h, fun p _ h => absurd rfl h⟩
theorem At.newPlaces {w : World} {L : Lay} {S : Sm} (h : At w L S) (hp : Pow (2 * S.M)) :
    At ((w.alloc (.cells (madeCells #[.int .i64 0] (2 * S.M)) 3)).setCell ⟨L.ob, 2, none⟩ (.slice (some ⟨w.heap.size, 0, none⟩) (2 * S.M) (2 * S.M))) ⟨L.ob, L.eb, w.heap.size, L.ec⟩ S.grown := by
  have a := h.alloc (.cells (madeCells #[.int .i64 0] (2 * S.M)) 3)
  obtain ⟨c1, g1, g2, g3⟩ := a.e
  have h1 := h.olt
  have h2 := h.elt
  refine ⟨?_, ⟨c1, by rw [heap_far (Ne.symm h.oe)]; exact g1, g2, ⟨g3.key, g3.sm, g3.val, g3.old, g3.new⟩⟩, ⟨_, by rw [heap_far (by simp only; omega)]; exact heap_alloc_new w _, size_madeCells _ _, fun i hi => made_get _ _ hi⟩, h.oe, by simp only; omega, by simp only; omega, h.nec, h.ecm, h.nn, hp⟩
  rw [heap_set a.o]
  simp [headCells]

theorem Good.add {S : Sm} {ids : List Nat} (g : Good S ids) {key : ByteArray} (hnot : ∀ j, 1 ≤ j → j ≤ S.n → S.key j ≠ key) (v : Int) {M' : Nat} {P : Nat → Nat} (hr : S.n < S.room)
    (hs : Seats M' (fun i => home M' (upd S.sm (S.n + 1) (Hs.sum key.data.toList) i)) P (fun i => 1 ≤ i ∧ i ≤ S.n + 1)) (hh : 2 * (S.n + 1 + 1) ≤ M') :
    Good (({ S.added key (Hs.sum key.data.toList) v with M := M', pl := P } : Sm).join (S.n + 1)) (ids ++ [S.n + 1]) ∧
      pairs (({ S.added key (Hs.sum key.data.toList) v with M := M', pl := P } : Sm).join (S.n + 1)) (ids ++ [S.n + 1]) = pairs S ids ++ [(key, v)] := by
  have hni : S.n + 1 ∉ 0 :: ids := fun hc => by
    rcases List.mem_cons.1 hc with e | e
    · omega
    · have := (g.mem _).1 e; omega
  have hf : Ring (upd S.new (S.n + 1) 0) (upd S.old (S.n + 1) 0) 0 ids 0 := g.ring.frame (fun x hx => upd_ne _ _ (fun e => hni (e ▸ hx))) (fun x hx => upd_ne _ _ (fun e => hni (by subst e; simpa [or_comm] using hx)))
  have hj := hf.join hni (by omega) g.nd2
  have hkeys : ∀ j, j ≠ S.n + 1 → upd S.key (S.n + 1) key j = S.key j := fun j hj => upd_ne _ _ hj
  refine ⟨⟨hj, ?_, fun j => ?_, fun j a b => ?_, fun j k a b c d => ?_, ?_, ?_, hs, hh, by simp only; omega, g.most⟩, ?_⟩
  · rw [List.nodup_append]
    exact ⟨g.nd, by simp, fun a ha b hb => by simp at hb; subst hb; rintro rfl; exact hni (List.mem_cons_of_mem _ ha)⟩
  · simp only [List.mem_append, List.mem_singleton, g.mem]; omega
  · simp only at b ⊢
    by_cases e : j = S.n + 1
    · rw [e]; simp only [upd_same]
    · simp only [upd_ne _ _ e]; exact g.sums j a (by omega)
  · simp only at b d
    intro hkey
    simp only at hkey
    by_cases e1 : j = S.n + 1 <;> by_cases e2 : k = S.n + 1
    · rw [e1, e2]
    · rw [e1] at hkey
      simp only [upd_same, upd_ne _ _ e2] at hkey
      exact absurd hkey.symm (hnot k c (by omega))
    · rw [e2] at hkey
      simp only [upd_same, upd_ne _ _ e1] at hkey
      exact absurd hkey (hnot j a (by omega))
    · simp only [upd_ne _ _ e1, upd_ne _ _ e2] at hkey
      exact g.keys _ _ a (by omega) c (by omega) hkey
  · show upd S.key (S.n + 1) key 0 = _
    rw [upd_ne _ _ (by omega)]; exact g.key0
  · show upd S.val (S.n + 1) v 0 = _
    rw [upd_ne _ _ (by omega)]; exact g.val0
  · unfold pairs
    simp only [List.map_append, List.map_cons, List.map_nil, upd_same]
    congr 1
    refine List.map_congr_left fun j hj => ?_
    have hne : j ≠ S.n + 1 := fun e => hni (List.mem_cons_of_mem _ (e ▸ hj))
    simp only [upd_ne _ _ hne]

/-- what add leaves -/
def Added (w : World) (L : Lay) (S : Sm) (ids : List Nat) (key : ByteArray) (v : Int) (w' : World) : Prop :=
  ∃ L' S', At w' L' S' ∧ Good S' (ids ++ [S.n + 1]) ∧ pairs S' (ids ++ [S.n + 1]) = pairs S ids ++ [(key, v)] ∧ Small S' ∧ S'.room = S.room ∧ L'.ob = L.ob ∧ Only L.own w w' ∧ (∀ x ∈ L'.own, x ∈ L.own ∨ w.heap.size ≤ x)

set_option maxRecDepth 100000 in
set_option maxHeartbeats 4000000 in
theorem add_calls {w : World} {L : Lay} {S : Sm} {ids : List Nat} (h : At w L S) (g : Good S ids) (hsm : Small S) (key : ByteArray) (hk : key.size ≤ maxLen) (v : Int) (hnot : ∀ j, 1 ≤ j → j ≤ S.n → S.key j ≠ key) (hroom : S.n < S.room) :
    Calls Try.prog 43 #[.pointer (some ⟨L.ob, 0, none⟩), .string key, .int .i64 v] w fun e w' => e = .returned (.bool true) ∧ Added w L S ids key v w' := by
  have nn := h.nn
  have hl := h.pow.le
  have hmost := g.most
  have H := Lib.hid h
  have G := Lib.hid g
  have HN := Lib.hid hnot
  have HSM := Lib.hid hsm
  have c1 := h.roomc
  have HR := Lib.hid hroom
  have t1 : decide ((S.room : Int) ≤ (S.n : Int)) = false := decide_eq_false (by omega)
  have t2 : ¬ (S.room : Int) ≤ (S.n : Int) := by omega
  clear h g hnot hroom hsm
  go_enter Try.func43, Try.ntmps43
  go_wp2_with fail
  go_quiet ((go_at_call 35; refine Calls.quiet_of_same ((count_calls (H.out.drewN _)).mono fun _ _ h => ⟨h.1, h.2.symm⟩)))
  have HA := Lib.hid (H.out.drewN nq)
  have HO : Hid (Only L.own w (w.drewN nq)) := Lib.hid ((Only.refl _ _).drewN nq)
  clear c1
  generalize w.drewN nq = W at HA HO ⊢
  have c1 := HA.out.entc
  go_upto_region 4 with (fail)
  go_cut [] (fun wc => Hid (AddB w L S key v wc))
  case first =>
    have zob := HA.out.olt
    have c1b := fun o => (HA.out.alloc o).entc
    have hn1 : S.n + 1 ≤ 10000 := by have := HR.out; omega
    go_region_law (first | (go_simp; go_at_call 46; refine (Hs.sum_calls key _ hk).mono ?_; rintro e w1 ⟨rfl, rfl⟩) | (refine step_append_tab (L := L) (S := S) (by rfl) _ _ (by rfl) (by rfl) (HA.out.alloc _).drew hn1 W.heap.size key (Hs.sum key.data.toList) v (by rfl) (heap_alloc_new W _) ?_; intro g1 cap1 w1 ha; have tf1 := ha.free; have tc1 := ha.cell))
    all_goals
      go_wp2_with fail
      go_meet
      case rel => exact Lib.hid ⟨g1, cap1, ha.at_, (HO.out.also (((Only.refl L.own W).alloc _).drew)).also (ha.only.set (by simp) _), by
        rcases ha.fresh with e | e
        · exact .inl e
        · right
          have := HO.out.size
          simp at e
          omega⟩
  case rest =>
    obtain ⟨g1, cap1, a1, o1, f1⟩ := hcut.out
    clear hcut HA HO c1
    have hown : ∀ x ∈ (⟨L.ob, g1, L.pb, cap1⟩ : Lay).own, x ∈ L.own ∨ w.heap.size ≤ x := fun x hx => by
      simp only [List.mem_cons, List.not_mem_nil, or_false] at hx ⊢
      rcases hx with rfl | rfl | rfl
      · exact .inl (.inl rfl)
      · rcases f1 with rfl | f1
        · exact .inl (.inr (.inl rfl))
        · exact .inr f1
      · exact .inl (.inr (.inr rfl))
    have A1 := Lib.hid a1
    have O1 := Lib.hid o1
    have W1 := Lib.hid hown
    have SM1 : Hid (Small (S.added key (Hs.sum key.data.toList) v)) := Lib.hid (fun i => by
      show upd S.sm (S.n + 1) (Hs.sum key.data.toList) i < _
      by_cases e : i = S.n + 1
      · rw [e, upd_same]; exact Hs.sum_lt _
      · rw [upd_ne _ _ e]; exact HSM.out i)
    have c1 := a1.entc
    have c2 := a1.plc
    clear a1 o1 hown f1
    simp only at c1 c2
    by_cases hb : S.M < 2 * (S.n + 1 + 1)
    · have t3 : decide ((S.M : Int) < 2 * ((S.n : Int) + 1 + 1)) = true := decide_eq_true (by omega)
      have t4 : (S.M : Int) < 2 * ((S.n : Int) + 1 + 1) := by omega
      go_wp2_with fail
      go_quiet (fail)
      have A2 := Lib.hid (A1.out.drewN nq)
      have O2 := Lib.hid (O1.out.drewN nq)
      clear c1 c2 A1 O1
      generalize wc.drewN nq = W2 at A2 O2 ⊢
      have c2 := A2.out.plc
      have cf := A2.out.ofree 2
      have zob := A2.out.olt
      have hmk := make_ints W2 S.M (by omega)
      have A3 := Lib.hid (A2.out.newPlaces (A2.out.pow.double (by show S.M < 20004; omega)))
      have O3 := Lib.hid ((O2.out.alloc (.cells (madeCells #[.int .i64 0] (2 * S.M)) 3)).set (p := ⟨L.ob, 2, none⟩) (by simp) (.slice (some ⟨W2.heap.size, 0, none⟩) (2 * S.M) (2 * S.M)))
      have hz := O2.out.size
      have Z := Lib.hid hz
      clear hz
      simp only at c2 cf zob
      obtain ⟨W3, hW3⟩ : ∃ W3, W3 = (W2.alloc (.cells (madeCells #[.int .i64 0] (2 * S.M)) 3)).setCell ⟨L.ob, 2, none⟩ (.slice (some ⟨W2.heap.size, 0, none⟩) (2 * S.M) (2 * S.M)) := ⟨_, rfl⟩
      have A3' : Hid (At W3 ⟨L.ob, g1, W2.heap.size, cap1⟩ (S.added key (Hs.sum key.data.toList) v).grown) := Lib.hid (by rw [hW3]; exact A3.out)
      have O3' : Hid (Only L.own w W3) := Lib.hid (by rw [hW3]; exact O3.out)
      rw [World.setCell_alloc_past _ _ _ _ zob] at hW3
      have HW3 := Lib.hid hW3
      clear A3 O3 hW3
      go_upto_region 7 with (fail)
      have hW3 := HW3.out
      rw [← hW3]
      clear hW3 HW3 c2 cf zob hmk
      go_wp2_with fail
      refine (seat_calls A3'.out (first := 1) (Nat.le_refl _) (by omega) Seats.none_ (by have := G.out.half; show S.n + 1 < 2 * S.M; omega) (fun i j h1 h2 h3 h4 hkey => ?_) SM1.out).mono ?_
      · simp only at h2 h4 hkey
        by_cases e1 : i = S.n + 1 <;> by_cases e2 : j = S.n + 1
        · rw [e1, e2]
        · rw [e1] at hkey
          simp only [upd_same, upd_ne _ _ e2] at hkey
          exact absurd hkey.symm (HN.out j h3 (by omega))
        · rw [e2] at hkey
          simp only [upd_same, upd_ne _ _ e1] at hkey
          exact absurd hkey (HN.out i h1 (by omega))
        · simp only [upd_ne _ _ e1, upd_ne _ _ e2] at hkey
          exact G.out.keys _ _ h1 (by omega) h3 (by omega) hkey
      rintro e w4 ⟨rfl, P, a4, s4, o4, -, -⟩
      have hb0 : upd S.old (S.n + 1) 0 0 ≤ S.n + 1 := by
        rw [upd_ne _ _ (by omega)]
        have := (G.out.bnd 0 (Nat.zero_le _)).1
        omega
      have A4 := Lib.hid a4
      have O4 := Lib.hid (O3'.out.trans o4 (fun x hx => by
        simp only [List.mem_cons, List.not_mem_nil, or_false] at hx
        rcases hx with rfl | rfl | rfl
        · exact W1.out _ (by simp)
        · exact W1.out _ (by simp)
        · exact .inr Z.out))
      have S4 := Lib.hid s4
      have HB0 := Lib.hid hb0
      clear a4 s4 o4 hb0 A3' O3'
      go_wp2_with fail
      refine (join_calls A4.out (i := S.n + 1) (Nat.le_refl _) HB0.out).mono ?_
      rintro e w5 ⟨rfl, a5, o5⟩
      have A5 := Lib.hid a5
      have O5 := Lib.hid (O4.out.trans o5 (fun x hx => by
        simp only [List.mem_cons, List.not_mem_nil, or_false] at hx
        rcases hx with rfl | rfl | rfl
        · exact W1.out _ (by simp)
        · exact W1.out _ (by simp)
        · exact .inr Z.out))
      clear a5 o5
      go_wp2_with fail
      go_ret
      have hg := G.out.add HN.out v (M' := 2 * S.M) (P := P) HR.out (S4.out.congr (fun j => by omega)) (by have := G.out.half; omega)
      refine ⟨rfl, ⟨L.ob, g1, W2.heap.size, cap1⟩, _, A5.out, hg.1, hg.2, SM1.out, rfl, rfl, O5.out, fun x hx => ?_⟩
      simp only [List.mem_cons, List.not_mem_nil, or_false] at hx
      rcases hx with rfl | rfl | rfl
      · exact W1.out _ (by simp)
      · exact W1.out _ (by simp)
      · exact .inr Z.out
    · have t3 : decide ((S.M : Int) < 2 * ((S.n : Int) + 1 + 1)) = false := decide_eq_false (by omega)
      have t4 : ¬ (S.M : Int) < 2 * ((S.n : Int) + 1 + 1) := by omega
      go_wp2_with fail
      go_quiet (fail)
      have A2 := Lib.hid (A1.out.drewN nq)
      have O2 := Lib.hid (O1.out.drewN nq)
      clear c1 c2 A1 O1
      generalize wc.drewN nq = W2 at A2 O2 ⊢
      have HS0 : Hid (Seats S.M (hm (S.added key (Hs.sum key.data.toList) v)) S.pl (fun j => 1 ≤ j ∧ j < S.n + 1)) := Lib.hid ((G.out.seats.hmc (fun j hj => by
        have : j ≠ S.n + 1 := by have := hj.2; omega
        show home S.M (upd S.sm (S.n + 1) (Hs.sum key.data.toList) j) = home S.M (S.sm j)
        rw [upd_ne _ _ this])).congr (fun j => by unfold occ; omega))
      go_wp2_with fail
      refine (seat_calls A2.out (first := S.n + 1) (by omega) (by show S.n + 1 ≤ S.n + 1 + 1; omega) HS0.out (by show S.n + 1 < S.M; omega) (fun i j h1 h2 h3 h4 hkey => ?_) SM1.out).mono ?_
      · simp only at h2 h4 hkey
        by_cases e1 : i = S.n + 1 <;> by_cases e2 : j = S.n + 1
        · rw [e1, e2]
        · rw [e1] at hkey
          simp only [upd_same, upd_ne _ _ e2] at hkey
          exact absurd hkey.symm (HN.out j h3 (by omega))
        · rw [e2] at hkey
          simp only [upd_same, upd_ne _ _ e1] at hkey
          exact absurd hkey (HN.out i h1 (by omega))
        · simp only [upd_ne _ _ e1, upd_ne _ _ e2] at hkey
          exact G.out.keys _ _ h1 (by omega) h3 (by omega) hkey
      rintro e w4 ⟨rfl, P, a4, s4, o4, -, -⟩
      have hb0 : upd S.old (S.n + 1) 0 0 ≤ S.n + 1 := by
        rw [upd_ne _ _ (by omega)]
        have := (G.out.bnd 0 (Nat.zero_le _)).1
        omega
      have A4 := Lib.hid a4
      have O4 := Lib.hid (O2.out.trans o4 W1.out)
      have S4 := Lib.hid s4
      have HB0 := Lib.hid hb0
      clear a4 s4 o4 hb0 A2 O2
      go_wp2_with fail
      refine (join_calls A4.out (i := S.n + 1) (Nat.le_refl _) HB0.out).mono ?_
      rintro e w5 ⟨rfl, a5, o5⟩
      have A5 := Lib.hid a5
      have O5 := Lib.hid (O4.out.trans o5 W1.out)
      clear a5 o5
      go_wp2_with fail
      go_ret
      have hg := G.out.add HN.out v (M' := S.M) (P := P) HR.out (S4.out.congr (fun j => by omega)) (by omega)
      exact ⟨rfl, ⟨L.ob, g1, L.pb, cap1⟩, _, A5.out, hg.1, hg.2, SM1.out, rfl, rfl, O5.out, W1.out⟩

end Go.Proofs.Ytdnaecmihgcelaa.Tb
