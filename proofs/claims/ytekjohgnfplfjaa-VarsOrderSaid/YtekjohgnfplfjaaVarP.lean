/-
  What the statements share: rows of things to do, Long, did, known.
-/
import Derived.Test.YtekjohgnfplfjaaVarVC
import Derived.Deep.Slices
import Derived.Deep.Fields
import Derived.ChangeSame
import Derived.Lib.SmallJoins
namespace Go.Proofs.Ytekjohgnfplfjaa.Va
open Go.RowKit

/-- kind, key, n, now -/
abbrev Act := Int × ByteArray × Int × Int
def Dos (w : World) (A : Option Addr) (L : List Act) : Prop :=
  ∀ i (h : i < L.length), ∃ a : Addr, A = some a ∧ w.cell? (a.add (i * 4)) = some (.int .i64 L[i].1) ∧ w.cell? ⟨(a.add (i * 4)).block, (a.add (i * 4)).off + 1, none⟩ = some (.string L[i].2.1) ∧ w.cell? ⟨(a.add (i * 4)).block, (a.add (i * 4)).off + 2, none⟩ = some (.int .i64 L[i].2.2.1) ∧ w.cell? ⟨(a.add (i * 4)).block, (a.add (i * 4)).off + 3, none⟩ = some (.int .i64 L[i].2.2.2)
theorem Dos.at_ {w : World} {A : Option Addr} {L : List Act} (h : Dos w A L) {i : Nat} (hi : i < L.length) : ∃ a : Addr, A = some a ∧ w.cell? (a.add (i * 4)) = some (.int .i64 L[i].1) ∧ w.cell? ⟨(a.add (i * 4)).block, (a.add (i * 4)).off + 1, none⟩ = some (.string L[i].2.1) ∧ w.cell? ⟨(a.add (i * 4)).block, (a.add (i * 4)).off + 2, none⟩ = some (.int .i64 L[i].2.2.1) ∧ w.cell? ⟨(a.add (i * 4)).block, (a.add (i * 4)).off + 3, none⟩ = some (.int .i64 L[i].2.2.2) := h i hi
theorem Dos.keep {w w' : World} {A : Option Addr} {L : List Act} (h : Dos w A L) (hb : Below w.heap.size w w') : Dos w' A L := fun i hi => by
  obtain ⟨a, e, h0, h1, h2, h3⟩ := h i hi
  exact ⟨a, e, by rw [hb.cell (World.block_lt_of_cell? w _ h0)]; exact h0, by rw [hb.cell (World.block_lt_of_cell? w _ h1)]; exact h1, by rw [hb.cell (World.block_lt_of_cell? w _ h2)]; exact h2, by rw [hb.cell (World.block_lt_of_cell? w _ h3)]; exact h3⟩
def Keyed (L : List Act) : Prop := ∀ d ∈ L, d.2.1.size ≤ maxLen ∧ I64 d.2.2.1 ∧ I64 d.2.2.2

set_option maxHeartbeats 400000 in
theorem Long_calls (A : Option Addr) (cap : Nat) (L : List Act) (w : World) (hA : Dos w A L) (hl : L.length ≤ 60) :
    Calls Try.prog 16 #[.slice A L.length cap] w fun e w' => (∃ m : Int, e = .returned (.int .i64 m)) ∧ Below w.heap.size w w' := by
  go_enter Try.func16, Try.ntmps16
  go_wp2_with fail
  go_loopw [3, 4] (fun m i wr => ∃ (k : Nat) (n : Int), k ≤ L.length ∧ i = .int .i64 k ∧ m = .int .i64 n ∧ Hid (Below w.heap.size w wr)) (fun _ i _ => L.length - (intOf i).toNat)
  case atStart => exact ⟨0, 0, Nat.zero_le _, rfl, rfl, Below.refl _ _⟩
  case round =>
    obtain ⟨k, n, hkl, rfl, rfl, HB⟩ := hrel
    by_cases hlt : k < L.length
    · obtain ⟨a, rfl, c0, c1, c2, c3⟩ := hA.keep (HB.out.mono (Nat.le_refl _)) k hlt
      go_wp2
      go_roundw
      case rel => exact ⟨k + 1, _, by omega, by go_num, rfl, HB⟩
      case measure => simp [intOf]; omega
    · go_wp2
      go_ret
      exact ⟨⟨_, rfl⟩, HB⟩

def truthI (b : Bool) : Int := if b then 1 else 0
theorem truth_calls (b : Bool) (w : World) : Calls Try.prog 28 #[.bool b] w fun e w' => e = .returned (.int .i64 (truthI b)) ∧ w = w' := by
  cases b
  · go_enter Try.func28, Try.ntmps28
    go_wp2_with fail
    go_ret
    exact ⟨rfl, rfl⟩
  · go_enter Try.func28, Try.ntmps28
    go_wp2_with fail
    go_ret
    exact ⟨rfl, rfl⟩

/-- what is told, and what is then -/
def stepV (room : Nat) (L : VL) (d : Act) : VL × Int × Int :=
  if d.1 = 1 then ((set room L d.2.1 d.2.2.1 d.2.2.2).1, 0, (set room L d.2.1 d.2.2.1 d.2.2.2).2)
  else if d.1 = 2 then add room L d.2.1 d.2.2.1 d.2.2.2
  else if d.1 = 3 then (del L d.2.1 d.2.2.2, 0, truthI (has L d.2.1 d.2.2.2))
  else if d.1 = 4 then (exp L d.2.1 d.2.2.1 d.2.2.2, 0, truthI (has L d.2.1 d.2.2.2))
  else (L, getv L d.2.1 d.2.2.2, truthI (has L d.2.1 d.2.2.2))
abbrev dval (d : Act) : Value := .agg #[.int .i64 d.1, .string d.2.1, .int .i64 d.2.2.1, .int .i64 d.2.2.2]
abbrev dbox (d : Act) : Obj := .cells #[.int .i64 d.1, .string d.2.1, .int .i64 d.2.2.1, .int .i64 d.2.2.2] 41
theorem stepV_good {room : Nat} {L : VL} (h : Good room L) (d : Act) : Good room (stepV room L d).1 := by
  unfold stepV
  split
  · exact h.set _ _ _
  · split
    · exact h.add _ _ _
    · split
      · exact h.del _ _
      · split
        · exact h.exp _ _ _
        · exact h

variable {C : VC}
set_option maxHeartbeats 2000000 in
theorem did_calls {w : World} {own : List Nat} {v room : Nat} {L : VL} (h : C.At w own v room L) (d : Act) (hk : d.2.1.size ≤ maxLen) (hn : I64 d.2.2.1) (ht : I64 d.2.2.2) :
    Calls Try.prog 18 #[.pointer (some ⟨v, 0, none⟩), dval d] w fun e w' => ∃ own', e = .returned (.tuple #[.int .i64 (stepV room L d).2.1, .int .i64 (stepV room L d).2.2]) ∧ C.At w' own' v room (stepV room L d).1 ∧ Kept own w own' w' := by
  obtain ⟨kind, key, n, now⟩ := d
  simp only at hk hn ht
  have H := Lib.hid (C.alloc h (dbox (kind, key, n, now)))
  have O : Hid (Only own w (w.alloc (dbox (kind, key, n, now)))) := Lib.hid ((Only.refl own w).alloc _)
  have HN := Lib.hid hn
  have HT := Lib.hid ht
  clear h hn ht
  by_cases h1 : kind = 1
  · subst h1
    have E := Lib.hid (show stepV room L (1, key, n, now) = ((set room L key n now).1, 0, (set room L key n now).2) from rfl)
    go_enter Try.func18, Try.ntmps18
    go_wp2_with fail
    refine (C.set_ H.out key n now hk HN.out HT.out).mono ?_
    rintro e w1 ⟨own', rfl, h2, k2⟩
    have K2 := Lib.hid (Kept.after O.out k2)
    have H2 := Lib.hid h2
    clear h2
    go_wp2_with fail
    go_ret2
    rw [E.out]
    exact ⟨_, rfl, H2.out, K2.out⟩
  · have t1 : (kind == 1) = false := beq_eq_false_iff_ne.2 h1
    by_cases h2 : kind = 2
    · subst h2
      have E := Lib.hid (show stepV room L (2, key, n, now) = add room L key n now from rfl)
      clear h1 t1
      go_enter Try.func18, Try.ntmps18
      go_wp2_with fail
      refine (C.add_ H.out key n now hk HN.out HT.out).mono ?_
      rintro e w1 ⟨own', rfl, h2, k2⟩
      have K2 := Lib.hid (Kept.after O.out k2)
      have H2 := Lib.hid h2
      clear h2
      go_wp2_with fail
      go_ret2
      rw [E.out]
      exact ⟨_, rfl, H2.out, K2.out⟩
    · have t2 : (kind == 2) = false := beq_eq_false_iff_ne.2 h2
      by_cases h3 : kind = 3
      · subst h3
        have E := Lib.hid (show stepV room L (3, key, n, now) = (del L key now, 0, truthI (has L key now)) from rfl)
        clear h1 t1 h2 t2
        go_enter Try.func18, Try.ntmps18
        go_wp2_with fail
        refine (C.del_ H.out key now hk HT.out).mono ?_
        rintro e w1 ⟨own', rfl, h2, k2⟩
        have K2 := Lib.hid (Kept.after O.out k2)
        have H2 := Lib.hid h2
        clear h2
        go_wp2_with fail
        refine (truth_calls _ _).mono ?_
        rintro e w2 ⟨rfl, rfl⟩
        go_wp2_with fail
        go_ret2
        rw [E.out]
        exact ⟨_, rfl, H2.out, K2.out⟩
      · have t3 : (kind == 3) = false := beq_eq_false_iff_ne.2 h3
        by_cases h4 : kind = 4
        · subst h4
          have E := Lib.hid (show stepV room L (4, key, n, now) = (exp L key n now, 0, truthI (has L key now)) from rfl)
          clear h1 t1 h2 t2 h3 t3
          go_enter Try.func18, Try.ntmps18
          go_wp2_with fail
          refine (C.exp_ H.out key n now hk HN.out HT.out).mono ?_
          rintro e w1 ⟨own', rfl, h2, k2⟩
          have K2 := Lib.hid (Kept.after O.out k2)
          have H2 := Lib.hid h2
          clear h2
          go_wp2_with fail
          refine (truth_calls _ _).mono ?_
          rintro e w2 ⟨rfl, rfl⟩
          go_wp2_with fail
          go_ret2
          rw [E.out]
          exact ⟨_, rfl, H2.out, K2.out⟩
        · have t4 : (kind == 4) = false := beq_eq_false_iff_ne.2 h4
          have E := Lib.hid (show stepV room L (kind, key, n, now) = (L, getv L key now, truthI (has L key now)) by unfold stepV; simp only [h1, h2, h3, h4, if_false])
          clear h1 h2 h3 h4
          go_enter Try.func18, Try.ntmps18
          go_wp2_with fail
          refine (C.get_ H.out key now hk HT.out).mono ?_
          rintro e w1 ⟨rfl, hb⟩
          have K2 : Hid (Kept own w own w1) := Lib.hid (Kept.after O.out (Kept.of_below hb))
          have h2 := C.below H.out hb
          have H2 := Lib.hid h2
          clear h2
          go_wp2_with fail
          refine (truth_calls _ _).mono ?_
          rintro e w2 ⟨rfl, rfl⟩
          go_wp2_with fail
          go_ret2
          rw [E.out]
          exact ⟨_, rfl, H2.out, K2.out⟩

theorem mDid {w0 w : World} {v room : Nat} {L : VL} (h : Mine C w0 w v room L) (d : Act) (hk : d.2.1.size ≤ maxLen) (hn : I64 d.2.2.1) (ht : I64 d.2.2.2) :
    Calls Try.prog 18 #[.pointer (some ⟨v, 0, none⟩), dval d] w fun e w' => e = .returned (.tuple #[.int .i64 (stepV room L d).2.1, .int .i64 (stepV room L d).2.2]) ∧ Mine C w0 w' v room (stepV room L d).1 := by
  obtain ⟨h1, own, h2, h3⟩ := h
  exact (did_calls h2 d hk hn ht).mono fun _ _ ⟨own', he, a, b⟩ => ⟨he, Mine.turn h1 h3 a b⟩

/-- three of the call's own, none of which knows of another -/
def Three (C : VC) (w0 w : World) (a b c room : Nat) (p q r : VL) : Prop :=
  Below w0.heap.size w0 w ∧ ∃ o1 o2 o3, C.At w o1 a room p ∧ C.At w o2 b room q ∧ C.At w o3 c room r ∧ ((∀ x ∈ o1, w0.heap.size ≤ x) ∧ (∀ x ∈ o2, w0.heap.size ≤ x) ∧ ∀ x ∈ o3, w0.heap.size ≤ x) ∧ (∀ x ∈ o1, x ∉ o2) ∧ (∀ x ∈ o2, x ∉ o3) ∧ ∀ x ∈ o3, x ∉ o1
section
variable {w0 w w' : World} {a b c room : Nat} {p q r p' : VL}
theorem Three.rot (h : Three C w0 w a b c room p q r) : Three C w0 w b c a room q r p := by
  obtain ⟨h0, o1, o2, o3, h1, h2, h3, ⟨l1, l2, l3⟩, d1, d2, d3⟩ := h
  exact ⟨h0, o2, o3, o1, h2, h3, h1, ⟨l2, l3, l1⟩, d2, d3, d1⟩
theorem Three.below (h : Three C w0 w a b c room p q r) (hb : Below w.heap.size w w') : Three C w0 w' a b c room p q r := by
  obtain ⟨h0, o1, o2, o3, h1, h2, h3, l, d⟩ := h
  exact ⟨h0.trans (hb.mono h0.size), o1, o2, o3, C.below h1 hb, C.below h2 hb, C.below h3 hb, l, d⟩
theorem Three.fst (h : Three C w0 w a b c room p q r) : Mine C w0 w a room p := by
  obtain ⟨h0, o1, _, _, h1, _, _, ⟨l1, _⟩, _⟩ := h
  exact ⟨h0, o1, h1, l1⟩
theorem Three.did (h : Three C w0 w a b c room p q r) (d : Act) (hk : d.2.1.size ≤ maxLen) (hn : I64 d.2.2.1) (ht : I64 d.2.2.2) :
    Calls Try.prog 18 #[.pointer (some ⟨a, 0, none⟩), dval d] w fun e w' => e = .returned (.tuple #[.int .i64 (stepV room p d).2.1, .int .i64 (stepV room p d).2.2]) ∧ Three C w0 w' a b c room (stepV room p d).1 q r := by
  obtain ⟨h0, o1, o2, o3, h1, h2, h3, ⟨l1, l2, l3⟩, d1, d2, d3⟩ := h
  refine (did_calls h1 d hk hn ht).mono fun _ w1 ⟨o', he, ha, hb⟩ => ⟨he, hb.1.below h0 l1 h0.size, o', o2, o3, ha, C.keep h2 hb.1 (fun x hx hc => d1 x hc hx), C.keep h3 hb.1 (fun x hx hc => d3 x hx hc), ⟨fun x hx => (hb.2 x hx).elim (l1 x) (fun h => Nat.le_trans h0.size h), l2, l3⟩, ?_, d2, ?_⟩
  · intro x hx hc
    rcases hb.2 x hx with h | h
    · exact d1 x h hc
    · have := (C.good h2).2.1 x hc; omega
  · intro x hx hc
    rcases hb.2 x hc with h | h
    · exact d3 x hx h
    · have := (C.good h3).2.1 x hx; omega
/-- a third one is made -/
theorem Three.made (o1 o2 o3 : List Nat) (h0 : Below w0.heap.size w0 w) (h1 : C.At w o1 a room p) (h2 : C.At w o2 b room q) (h3 : C.At w' o3 c room r) (hb : Below w.heap.size w w')
    (l1 : ∀ x ∈ o1, w0.heap.size ≤ x) (l2 : ∀ x ∈ o2, w0.heap.size ≤ x) (l3 : ∀ x ∈ o3, w.heap.size ≤ x) (d1 : ∀ x ∈ o1, x ∉ o2) : Three C w0 w' a b c room p q r :=
  ⟨h0.trans (hb.mono h0.size), o1, o2, o3, C.below h1 hb, C.below h2 hb, h3, ⟨l1, l2, fun x hx => Nat.le_trans h0.size (l3 x hx)⟩, d1, fun x hx hc => by have := (C.good h2).2.1 x hx; have := l3 x hc; omega, fun x hx hc => by have := (C.good h1).2.1 x hc; have := l3 x hx; omega⟩
end

set_option maxHeartbeats 1000000 in
theorem known_calls (C : VC) (w : World) : Calls Try.prog 13 #[] w fun e w' => e = .returned (.bool true) ∧ Below w.heap.size w w' := by
  go_enter Try.func13, Try.ntmps13
  go_wp2_with fail
  refine (mNew (C := C) 9 (by omega) (Below.refl w.heap.size w)).mono ?_
  rintro e w1 ⟨v, rfl, h1⟩
  have H1 : Hid (Mine C w w1 v 9 []) := Lib.hid h1
  clear h1
  go_wp2_with fail
  refine (mSet H1.out ⟨#[97]⟩ 5 0 (by decide) (by omega) (by omega)).mono ?_
  rw [show set 9 [] ⟨#[97]⟩ 5 0 = ([(⟨#[97]⟩, 5, -1)], 0) by decide]
  rintro e w2 ⟨rfl, h2⟩
  have H2 := Lib.hid h2
  clear h2 H1
  go_wp2_with fail
  refine (mExp H2.out ⟨#[97]⟩ 10 0 (by decide) (by omega) (by omega)).mono ?_
  rw [show exp [(⟨#[97]⟩, 5, -1)] ⟨#[97]⟩ 10 0 = [(⟨#[97]⟩, 5, 10)] by decide, show has [(⟨#[97]⟩, 5, -1)] ⟨#[97]⟩ 0 = true by decide]
  rintro e w3 ⟨rfl, h3⟩
  have H3 := Lib.hid h3
  clear h3 H2
  go_wp2_with fail
  refine (mGet H3.out ⟨#[97]⟩ 9 (by decide) (by omega)).mono ?_
  rw [show getv [(⟨#[97]⟩, 5, 10)] ⟨#[97]⟩ 9 = 5 by decide, show has [(⟨#[97]⟩, 5, 10)] ⟨#[97]⟩ 9 = true by decide]
  rintro e w4 ⟨rfl, h4, -⟩
  have H4 := Lib.hid h4
  clear h4 H3
  go_wp2_with fail
  refine (mGet H4.out ⟨#[97]⟩ 10 (by decide) (by omega)).mono ?_
  rw [show getv [(⟨#[97]⟩, 5, 10)] ⟨#[97]⟩ 10 = 0 by decide, show has [(⟨#[97]⟩, 5, 10)] ⟨#[97]⟩ 10 = false by decide]
  rintro e w5 ⟨rfl, h5, -⟩
  have H5 := Lib.hid h5
  clear h5 H4
  go_wp2_with fail
  refine (C.setNil ⟨#[97]⟩ 1 1 _).mono ?_
  rintro e w6 ⟨rfl, hb⟩
  have H6 := Lib.hid (H5.out.below hb)
  clear hb
  go_wp2_with fail
  go_ret
  exact ⟨rfl, H6.out.1⟩
end Go.Proofs.Ytekjohgnfplfjaa.Va
