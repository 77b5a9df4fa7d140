/-
  fill: the last entry has the number of one that is gone.
-/
import Derived.Test.YtdnaecmihgcelaaTabD
import Derived.Laws.IdiomCopy
import Derived.Deep.DeepCutAuto
namespace Go.Proofs.Ytdnaecmihgcelaa.Tb
open Go.RowKit

abbrev set5 (cur : Array Value) (k : Nat) (a b c d e : Value) : Array Value := ((((cur.setIfInBounds k a).setIfInBounds (k + 1) b).setIfInBounds (k + 2) c).setIfInBounds (k + 3) d).setIfInBounds (k + 4) e
theorem set5_out (cur : Array Value) (k j : Nat) (a b c d e : Value) (h : j < k ∨ k + 5 ≤ j) : (set5 cur k a b c d e)[j]? = cur[j]? := by
  rw [get_set_ne _ _ _ _ (by omega), get_set_ne _ _ _ _ (by omega), get_set_ne _ _ _ _ (by omega), get_set_ne _ _ _ _ (by omega), get_set_ne _ _ _ _ (by omega)]
theorem set5_0 (cur : Array Value) (k : Nat) (a b c d e : Value) (h : k + 5 ≤ cur.size) : (set5 cur k a b c d e)[k]? = some a := by
  rw [get_set_ne _ _ _ _ (by omega), get_set_ne _ _ _ _ (by omega), get_set_ne _ _ _ _ (by omega), get_set_ne _ _ _ _ (by omega), get_set_same _ _ _ (by omega)]
theorem set5_1 (cur : Array Value) (k : Nat) (a b c d e : Value) (h : k + 5 ≤ cur.size) : (set5 cur k a b c d e)[k + 1]? = some b := by
  rw [get_set_ne _ _ _ _ (by omega), get_set_ne _ _ _ _ (by omega), get_set_ne _ _ _ _ (by omega), get_set_same _ _ _ (by simp only [Array.size_setIfInBounds]; omega)]
theorem set5_2 (cur : Array Value) (k : Nat) (a b c d e : Value) (h : k + 5 ≤ cur.size) : (set5 cur k a b c d e)[k + 2]? = some c := by
  rw [get_set_ne _ _ _ _ (by omega), get_set_ne _ _ _ _ (by omega), get_set_same _ _ _ (by simp only [Array.size_setIfInBounds]; omega)]
theorem set5_3 (cur : Array Value) (k : Nat) (a b c d e : Value) (h : k + 5 ≤ cur.size) : (set5 cur k a b c d e)[k + 3]? = some d := by
  rw [get_set_ne _ _ _ _ (by omega), get_set_same _ _ _ (by simp only [Array.size_setIfInBounds]; omega)]
theorem set5_4 (cur : Array Value) (k : Nat) (a b c d e : Value) (h : k + 5 ≤ cur.size) : (set5 cur k a b c d e)[k + 4]? = some e := by
  rw [get_set_same _ _ _ (by simp only [Array.size_setIfInBounds]; omega)]
abbrev _root_.Go.World.set5 (w : World) (b k : Nat) (a c d e f : Value) : World := ((((w.setCell ⟨b, k, none⟩ a).setCell ⟨b, k + 1, none⟩ c).setCell ⟨b, k + 2, none⟩ d).setCell ⟨b, k + 3, none⟩ e).setCell ⟨b, k + 4, none⟩ f
theorem heap_set5 {w : World} {b : Nat} {t : TypeId} {cur : Array Value} {fz : Nat × Nat} (h : w.heap[b]? = some (.cells cur t fz)) (k : Nat) (a c d e f : Value) : (w.set5 b k a c d e f).heap[b]? = some (.cells (Tb.set5 cur k a c d e f) t fz) :=
  heap_set (heap_set (heap_set (heap_set (heap_set h _ _) _ _) _ _) _ _) _ _
theorem heap_far5 {w : World} {b c : Nat} (hne : b ≠ c) (k : Nat) (a u d e f : Value) : (w.set5 c k a u d e f).heap[b]? = w.heap[b]? := by
  rw [heap_far hne, heap_far hne, heap_far hne, heap_far hne, heap_far hne]
theorem Only.set5 {own : List Nat} {a b : World} (h : Only own a b) {c : Nat} (hc : c ∈ own) (k : Nat) (u v x y z : Value) : Only own a (b.set5 c k u v x y z) :=
  ((((h.set (p := ⟨c, k, none⟩) hc _).set (p := ⟨c, k + 1, none⟩) hc _).set (p := ⟨c, k + 2, none⟩) hc _).set (p := ⟨c, k + 3, none⟩) hc _).set (p := ⟨c, k + 4, none⟩) hc _

abbrev Sm.moveTo (S : Sm) (i : Nat) : Sm := { S with key := upd S.key i (S.key S.n), sm := upd S.sm i (S.sm S.n), val := upd S.val i (S.val S.n), old := upd S.old i (S.old S.n), new := upd S.new i (S.new S.n) }
abbrev Sm.less (S : Sm) : Sm := { S with n := S.n - 1 }

variable {w : World} {L : Lay} {S : Sm}
theorem At.moveTo (h : At w L S) {i : Nat} (hi : i ≤ S.n) : At (w.set5 L.eb (i * 5) (.string (S.key S.n)) (.int .u64 (S.sm S.n : Nat)) (.int .i64 (S.val S.n)) (.int .i64 (S.old S.n : Nat)) (.int .i64 (S.new S.n : Nat))) L (S.moveTo i) := by
  obtain ⟨c1, g1, g2, g3⟩ := h.e
  obtain ⟨c2, p1, p2, p3⟩ := h.p
  have hn := h.nec
  refine ⟨by rw [heap_far5 h.oe]; exact h.o, ⟨_, heap_set5 g1 _ _ _ _ _ _, by simpa using g2, ⟨fun j hj => ?_, fun j hj => ?_, fun j hj => ?_, fun j hj => ?_, fun j hj => ?_⟩⟩, ⟨c2, by rw [heap_far5 (Ne.symm h.ep)]; exact p1, p2, p3⟩, h.oe, h.op, h.ep, h.nec, h.ecm, h.nn, h.pow⟩
  · by_cases e : j = i
    · subst e; rw [set5_0 _ _ _ _ _ _ _ (by omega)]; simp only [upd_same]
    · rw [set5_out _ _ _ _ _ _ _ _ (by omega)]; simp only [upd_ne _ _ e]; exact g3.key j hj
  · by_cases e : j = i
    · subst e; rw [set5_1 _ _ _ _ _ _ _ (by omega)]; simp only [upd_same]
    · rw [set5_out _ _ _ _ _ _ _ _ (by omega)]; simp only [upd_ne _ _ e]; exact g3.sm j hj
  · by_cases e : j = i
    · subst e; rw [set5_2 _ _ _ _ _ _ _ (by omega)]; simp only [upd_same]
    · rw [set5_out _ _ _ _ _ _ _ _ (by omega)]; simp only [upd_ne _ _ e]; exact g3.val j hj
  · by_cases e : j = i
    · subst e; rw [set5_3 _ _ _ _ _ _ _ (by omega)]; simp only [upd_same]
    · rw [set5_out _ _ _ _ _ _ _ _ (by omega)]; simp only [upd_ne _ _ e]; exact g3.old j hj
  · by_cases e : j = i
    · subst e; rw [set5_4 _ _ _ _ _ _ _ (by omega)]; simp only [upd_same]
    · rw [set5_out _ _ _ _ _ _ _ _ (by omega)]; simp only [upd_ne _ _ e]; exact g3.new j hj
/-- the last entry is cleared, and is no more -/
theorem At.shrink (h : At w L S) (h1 : 1 ≤ S.n) (a b c d e : Value) : At ((w.set5 L.eb (S.n * 5) a b c d e).setCell ⟨L.ob, 1, none⟩ (.slice (some ⟨L.eb, 0, none⟩) S.n L.ec)) L S.less := by
  obtain ⟨c1, g1, g2, g3⟩ := h.e
  obtain ⟨c2, p1, p2, p3⟩ := h.p
  have hn := h.nec
  have n2 := h.nn
  have ho : (w.set5 L.eb (S.n * 5) a b c d e).heap[L.ob]? = some (.cells (headCells L S) 75 (0, 0)) := by rw [heap_far5 h.oe]; exact h.o
  refine ⟨?_, ⟨_, by rw [heap_far (Ne.symm h.oe)]; exact heap_set5 g1 _ _ _ _ _ _, by simpa using g2, ⟨fun j hj => ?_, fun j hj => ?_, fun j hj => ?_, fun j hj => ?_, fun j hj => ?_⟩⟩, ⟨c2, by rw [heap_far (Ne.symm h.op), heap_far5 (Ne.symm h.ep)]; exact p1, p2, p3⟩, h.oe, h.op, h.ep, by simp only; omega, h.ecm, by simp only; omega, h.pow⟩
  · rw [heap_set ho]
    have : S.n - 1 + 1 = S.n := by omega
    simp [headCells, this]
  · simp only at hj; rw [set5_out _ _ _ _ _ _ _ _ (by omega)]; exact g3.key j (by omega)
  · simp only at hj; rw [set5_out _ _ _ _ _ _ _ _ (by omega)]; exact g3.sm j (by omega)
  · simp only at hj; rw [set5_out _ _ _ _ _ _ _ _ (by omega)]; exact g3.val j (by omega)
  · simp only at hj; rw [set5_out _ _ _ _ _ _ _ _ (by omega)]; exact g3.old j (by omega)
  · simp only at hj; rw [set5_out _ _ _ _ _ _ _ _ (by omega)]; exact g3.new j (by omega)

theorem ent_zero (w : World) : (zeroValue 80).run Try.prog w = .ok (.agg #[.string ⟨#[]⟩, .int .u64 0, .int .i64 0, .int .i64 0, .int .i64 0]) w := by kernel_rfl

theorem run_clear_ent (w : World) (ty : TypeId) (b o c : Nat) (hc : ∀ j, j < 5 → (w.cell? ⟨b, o + j, none⟩).isSome = true) (hf : ∀ j, j < 5 → w.frozen? ⟨b, o + j, none⟩ = false) :
    (Builtin.clear_ #[72] ty #[.slice (some ⟨b, o, none⟩) 1 c]).run Try.prog w = .ok (.tuple #[]) (w.set5 b o (.string ⟨#[]⟩) (.int .u64 0) (.int .i64 0) (.int .i64 0) (.int .i64 0)) := by
  have hst := run_storeCells_cells (P := Try.prog) b o [.string ⟨#[]⟩, .int .u64 0, .int .i64 0, .int .i64 0, .int .i64 0] 0 w (by simpa using hc) (by simpa using hf) (by intro v hv; simp at hv; rcases hv with rfl | rfl | rfl | rfl | rfl <;> rfl)
  simp only [Nat.add_zero] at hst
  have hz : (Builtin.zeroCells (Value.agg #[.string ⟨#[]⟩, .int .u64 0, .int .i64 0, .int .i64 0, .int .i64 0]).cells 1).toList = [.string ⟨#[]⟩, .int .u64 0, .int .i64 0, .int .i64 0, .int .i64 0] := by kernel_rfl
  simp [Builtin.clear_, run_underlying Try.underlying72, hz, hst]
  rfl

/-- what fill makes of the state: P its places -/
def Sm.fill (S : Sm) (i : Nat) (P : Nat → Nat) : Sm := if i = S.n then (S.withPl P).less else ((((S.withPl P).moveTo i).tie (S.old S.n) i).tie i (S.new S.n)).less

/-- what goes on behind the search: e's box, and the table -/
def FillB (w : World) (L : Lay) (S S' : Sm) (wc : World) : Prop :=
  At wc L S' ∧ Only L.own w wc ∧ wc.heap[w.heap.size]? = some (.cells (entCells S S.n) 80 (0, 0))
theorem FillB.cell {w : World} {L : Lay} {S S' : Sm} {wc : World} (h : FillB w L S S' wc) (j : Nat) : wc.cell? ⟨w.heap.size, j, none⟩ = (entCells S S.n)[j]? := cell_of_row _ _ _ _ _ _ h.2.2
theorem FillB.go {w : World} {L : Lay} {S S' S2 : Sm} {wc wd : World} (h : FillB w L S S' wc) (h0 : At w L S) (a : At wd L S2) (o : Only L.own wc wd) : FillB w L S S2 wd := by
  refine ⟨a, h.2.1.also o, ?_⟩
  have := h.2.1.size
  have h1 := h0.olt
  have h2 := h0.elt
  have h3 := h0.plt
  have hlt : w.heap.size < wc.heap.size := (Array.getElem?_eq_some_iff.1 h.2.2).1
  rw [o.block _ hlt (by simp; omega)]
  exact h.2.2

theorem clear_of {w : World} {L : Lay} {S : Sm} (h : At w L S) (ty : TypeId) : (Builtin.clear_ #[72] ty #[.slice (some ⟨L.eb, S.n * 5, none⟩) 1 (L.ec - S.n)]).run Try.prog w = .ok (.tuple #[]) (w.set5 L.eb (S.n * 5) (.string ⟨#[]⟩) (.int .u64 0) (.int .i64 0) (.int .i64 0) (.int .i64 0)) := by
  have hnec := h.nec
  exact run_clear_ent w ty L.eb (S.n * 5) _ (fun j hj => by
    obtain ⟨cur, g1, g2, _⟩ := h.e
    rw [cell_of_row _ _ _ _ _ _ g1]
    simp; omega) (fun j _ => h.efree _)

set_option maxRecDepth 100000 in
set_option maxHeartbeats 4000000 in
theorem fill_calls {w : World} {L : Lay} {S : Sm} (h : At w L S) {i : Nat} (hi : occ S i) (hs : Seats S.M (hm S) S.pl (fun j => occ S j ∧ j ≠ i)) (hn : S.n < S.M) (hb : S.old S.n ≤ S.n ∧ S.new S.n ≤ S.n)
    (hk : ∀ i j, 1 ≤ i → i ≤ S.n → 1 ≤ j → j ≤ S.n → S.key i = S.key j → i = j) (hsm : ∀ i, S.sm i < 18446744073709551616) :
    Calls Try.prog 49 #[.pointer (some ⟨L.ob, 0, none⟩), .int .i64 (i : Nat)] w fun e w' => e = .returned (.tuple #[]) ∧ ∃ P, At w' L (S.fill i P) ∧ Only L.own w w' ∧ ((i = S.n ∧ P = S.pl) ∨ (i ≠ S.n ∧ ∃ p, p < S.M ∧ S.pl p = S.n ∧ P = upd S.pl p i)) := by
  have nn := h.nn
  have hl := h.pow.le
  have hnec := h.nec
  have c1 := h.entc
  have hi1 : 1 ≤ i := hi.1
  have hi2 : i ≤ S.n := hi.2
  by_cases he : i = S.n
  · have t1 : ((i : Int) != (S.n : Int)) = false := by rw [he]; simp
    have H := Lib.hid h
    have HE := Lib.hid he
    have hcl := fun ty => clear_of h ty
    have HO : Hid (Only L.own w ((w.set5 L.eb (S.n * 5) (.string ⟨#[]⟩) (.int .u64 0) (.int .i64 0) (.int .i64 0) (.int .i64 0)).setCell ⟨L.ob, 1, none⟩ (.slice (some ⟨L.eb, 0, none⟩) S.n L.ec))) := Lib.hid (((Only.refl _ _).set5 (by simp) _ _ _ _ _ _).set (by simp) _)
    have cf := h.ofree 1
    have hne : L.ob ≠ L.eb := h.oe
    clear h hs hk hsm hb hi he
    go_enter Try.func49, Try.ntmps49
    go_wp2_with (simp only [hcl])
    go_end0
    refine ⟨rfl, S.pl, ?_, HO.out, .inl ⟨HE.out, rfl⟩⟩
    unfold Sm.fill
    rw [if_pos HE.out]
    exact H.out.shrink (by omega) _ _ _ _ _
  · have t1 : ((i : Int) != (S.n : Int)) = true := by simp; omega
    have hoz : occ S S.n ∧ S.n ≠ i := ⟨⟨by omega, Nat.le_refl _⟩, Ne.symm he⟩
    obtain ⟨q, hq, hq0⟩ := hs.free (n := S.n) (fun j hj => hj.1.2) hn
    obtain ⟨p, hf⟩ := Found.exists_ S.pl (fun j => S.sm j = S.sm S.n ∧ S.key j = S.key S.n) (home_lt h.pow (S.sm S.n)) hq hq0
    have hpM : p < S.M := hf.lt (home_lt h.pow (S.sm S.n))
    have hpn : S.pl p = S.n := hs.hit (i := S.n) hoz ⟨rfl, rfl⟩ (fun j hj hm => hk j S.n hj.1.1 hj.1.2 (by omega) (Nat.le_refl _) hm.2) hf
    have hlow : ∀ r, r < S.M → S.pl r ≤ S.n := fun r hr => by
      by_cases e : S.pl r = 0
      · omega
      · exact (hs.mem r hr e).1.2
    have c2 := h.key (Nat.le_refl S.n)
    have c3 := h.sm (Nat.le_refl S.n)
    have c4 := h.val (Nat.le_refl S.n)
    have c5 := h.old (Nat.le_refl S.n)
    have c6 := h.new (Nat.le_refl S.n)
    have HF := Lib.hid hf
    have HQ := Lib.hid (show ∃ q, q < S.M ∧ S.pl q = 0 from ⟨q, hq, hq0⟩)
    have HL := Lib.hid hlow
    have HPN := Lib.hid hpn
    have HM := Lib.hid hsm
    have HB := Lib.hid hb
    have HE := Lib.hid he
    have H := Lib.hid h
    obtain ⟨W, hW⟩ : ∃ W, W = w.alloc (.cells (entCells S S.n) 80) := ⟨_, rfl⟩
    have hA := h.alloc (.cells (entCells S S.n) 80)
    have hB : FillB w L S S (w.alloc (.cells (entCells S S.n) 80)) := ⟨hA, (Only.refl _ _).alloc _, heap_alloc_new w _⟩
    rw [← hW] at hB
    have HW := Lib.hid hW
    have HA := Lib.hid hB
    clear hW hB hA h hs hi he hoz hf hlow hq0 hq hpn hsm hb hk
    go_enter Try.func49, Try.ntmps49
    go_upto_region 3 with (fail)
    have hW := HW.out
    simp only [entCells] at hW
    rw [← hW]
    clear hW HW c1 c2 c3 c4 c5 c6
    go_cut [] (fun wc => Hid (FillB w L S (S.withPl (upd S.pl p i)) wc))
    case first =>
      have b0 : W.cell? ⟨w.heap.size, 0, none⟩ = some (.string (S.key S.n)) := HA.out.cell 0
      have b1 : W.cell? ⟨w.heap.size, 1, none⟩ = some (.int .u64 (S.sm S.n : Nat)) := HA.out.cell 1
      have cp := HA.out.1.plc
      have b2 : ¬ ((p : Int) < 0) := by omega
      have b3 : (p : Int) < (S.M : Int) := by omega
      have ck := HA.out.1.pl (i := p) hpM
      have cf := HA.out.1.pfree p
      go_region_with (go_at_call 45; refine (seek_calls HA.out.1.drew (S.key S.n) (HM.out S.n) HL.out HQ.out HF.out).mono ?_; rintro e w1 ⟨rfl, rfl⟩)
      all_goals
        go_wp2_with fail
        go_meet
        case rel => exact Lib.hid (HA.out.go H.out ((HA.out.1.setPl (i := p) hpM i).drew) ((Only.refl _ _).set (p := ⟨L.pb, p, none⟩) (by simp) _).drew)
    case rest =>
      have HC := hcut
      clear hcut HA
      have b0 : wc.cell? ⟨w.heap.size, 0, none⟩ = some (.string (S.key S.n)) := HC.out.cell 0
      have b1 : wc.cell? ⟨w.heap.size, 1, none⟩ = some (.int .u64 (S.sm S.n : Nat)) := HC.out.cell 1
      have b2 : wc.cell? ⟨w.heap.size, 2, none⟩ = some (.int .i64 (S.val S.n)) := HC.out.cell 2
      have b3 : wc.cell? ⟨w.heap.size, 3, none⟩ = some (.int .i64 (S.old S.n : Nat)) := HC.out.cell 3
      have b4 : wc.cell? ⟨w.heap.size, 4, none⟩ = some (.int .i64 (S.new S.n : Nat)) := HC.out.cell 4
      have c1 := HC.out.1.entc
      simp only at c1
      have d0 : ¬ ((i : Int) < 0) := by omega
      have d1 : (i : Int) < (S.n : Int) + 1 := by omega
      go_wp2_with fail
      go_still_tail 7, (by kernel_rfl)
      change wpList _ _ _ _ _ wc.drew
      have HD := Lib.hid (HC.out.go H.out HC.out.1.drew (Only.refl _ _).drew)
      clear HC b0 b1 b2 b3 b4 c1
      generalize wc.drew = W3 at HD ⊢
      have b0 : W3.cell? ⟨w.heap.size, 0, none⟩ = some (.string (S.key S.n)) := HD.out.cell 0
      have b1 : W3.cell? ⟨w.heap.size, 1, none⟩ = some (.int .u64 (S.sm S.n : Nat)) := HD.out.cell 1
      have b2 : W3.cell? ⟨w.heap.size, 2, none⟩ = some (.int .i64 (S.val S.n)) := HD.out.cell 2
      have b3 : W3.cell? ⟨w.heap.size, 3, none⟩ = some (.int .i64 (S.old S.n : Nat)) := HD.out.cell 3
      have b4 : W3.cell? ⟨w.heap.size, 4, none⟩ = some (.int .i64 (S.new S.n : Nat)) := HD.out.cell 4
      have k0 := HD.out.1.key (i := i) hi2
      have k1 := HD.out.1.sm (i := i) hi2
      have k2 := HD.out.1.val (i := i) hi2
      have k3 := HD.out.1.old (i := i) hi2
      have k4 := HD.out.1.new (i := i) hi2
      have f0 := HD.out.1.efree (i * 5)
      have f1 := HD.out.1.efree (i * 5 + 1)
      have f2 := HD.out.1.efree (i * 5 + 2)
      have f3 := HD.out.1.efree (i * 5 + 3)
      have f4 := HD.out.1.efree (i * 5 + 4)
      simp only at k0 k1 k2 k3 k4
      obtain ⟨W4, hW4⟩ : ∃ W4, W4 = W3.set5 L.eb (i * 5) (.string (S.key S.n)) (.int .u64 (S.sm S.n : Nat)) (.int .i64 (S.val S.n)) (.int .i64 (S.old S.n : Nat)) (.int .i64 (S.new S.n : Nat)) := ⟨_, rfl⟩
      have hM := HD.out.1.moveTo (i := i) hi2
      have h5 := HD.out.go H.out hM ((Only.refl L.own W3).set5 (c := L.eb) (by simp) (i * 5) _ _ _ _ _)
      rw [← hW4] at h5
      have H5 := Lib.hid h5
      have HW4 := Lib.hid hW4
      clear hM h5 hW4
      go_upto_region 5 with (fail)
      trace_state
      have hW4 := HW4.out
      simp only [World.set5] at hW4
      rw [← hW4]
      clear hW4 HW4 b0 b1 b2 b3 b4 k0 k1 k2 k3 k4 f0 f1 f2 f3 f4 HD
      have b3 : W4.cell? ⟨w.heap.size, 3, none⟩ = some (.int .i64 (S.old S.n : Nat)) := H5.out.cell 3
      go_wp2_with fail
      refine (tie_calls H5.out.1 (a := S.old S.n) (b := i) HB.out.1 hi2).mono ?_
      rintro e w6 ⟨rfl, a6, o6⟩
      have H6 := Lib.hid (H5.out.go H.out a6 o6)
      clear a6 o6 b3 H5
      have b4 : w6.cell? ⟨w.heap.size, 4, none⟩ = some (.int .i64 (S.new S.n : Nat)) := H6.out.cell 4
      go_wp2_with fail
      refine (tie_calls H6.out.1 (a := i) (b := S.new S.n) hi2 HB.out.2).mono ?_
      rintro e w7 ⟨rfl, a7, o7⟩
      have H7 := Lib.hid (H6.out.go H.out a7 o7)
      have hcl := fun ty => clear_of a7 ty
      have HO : Hid (Only L.own w7 ((w7.set5 L.eb (S.n * 5) (.string ⟨#[]⟩) (.int .u64 0) (.int .i64 0) (.int .i64 0) (.int .i64 0)).setCell ⟨L.ob, 1, none⟩ (.slice (some ⟨L.eb, 0, none⟩) S.n L.ec))) := Lib.hid (((Only.refl _ _).set5 (by simp) _ _ _ _ _ _).set (by simp) _)
      have cf := a7.ofree 1
      have hne : L.ob ≠ L.eb := a7.oe
      have c1 := a7.entc
      clear a7 o7 b4 H6
      simp only at c1 hcl
      go_wp2_with fail
      go_end0
      refine ⟨rfl, upd S.pl p i, ?_, H7.out.2.1.also HO.out, .inr ⟨HE.out, p, hpM, HPN.out, rfl⟩⟩
      unfold Sm.fill
      rw [if_neg HE.out]
      exact H7.out.1.shrink (S := ((((S.withPl (upd S.pl p i)).moveTo i).tie (S.old S.n) i).tie i (S.new S.n))) (by show 1 ≤ S.n; omega) _ _ _ _ _

end Go.Proofs.Ytdnaecmihgcelaa.Tb
