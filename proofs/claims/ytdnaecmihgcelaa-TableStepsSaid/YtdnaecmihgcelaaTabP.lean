/-
  What the statements share: rows of things to do, Long, did, known.
-/
import Derived.Test.YtdnaecmihgcelaaTabO
import Derived.ProofKit
import Derived.OpenShut
import Derived.IntWalk
import Derived.Carry
import Derived.Deep.Slices
import Derived.Deep.Fields
import Derived.ChangeSame
import Derived.Lib.SmallJoins
namespace Go.Proofs.Ytdnaecmihgcelaa.Tb
open Go.RowKit

abbrev Act := Int × ByteArray × Int
def Dos (w : World) (A : Option Addr) (L : List Act) : Prop :=
  ∀ i (h : i < L.length), ∃ a : Addr, A = some a ∧ w.cell? (a.add (i * 3)) = some (.int .i64 L[i].1) ∧ w.cell? ⟨(a.add (i * 3)).block, (a.add (i * 3)).off + 1, none⟩ = some (.string L[i].2.1) ∧ w.cell? ⟨(a.add (i * 3)).block, (a.add (i * 3)).off + 2, none⟩ = some (.int .i64 L[i].2.2)
theorem Dos.at_ {w : World} {A : Option Addr} {L : List Act} (h : Dos w A L) {i : Nat} (hi : i < L.length) : ∃ a : Addr, A = some a ∧ w.cell? (a.add (i * 3)) = some (.int .i64 L[i].1) ∧ w.cell? ⟨(a.add (i * 3)).block, (a.add (i * 3)).off + 1, none⟩ = some (.string L[i].2.1) ∧ w.cell? ⟨(a.add (i * 3)).block, (a.add (i * 3)).off + 2, none⟩ = some (.int .i64 L[i].2.2) := h i hi
theorem Dos.keep {w w' : World} {A : Option Addr} {L : List Act} (h : Dos w A L) (hb : Below w.heap.size w w') : Dos w' A L := fun i hi => by
  obtain ⟨a, e, h0, h1, h2⟩ := h i hi
  exact ⟨a, e, by rw [hb.cell (World.block_lt_of_cell? w _ h0)]; exact h0, by rw [hb.cell (World.block_lt_of_cell? w _ h1)]; exact h1, by rw [hb.cell (World.block_lt_of_cell? w _ h2)]; exact h2⟩

def Keyed (L : List Act) : Prop := ∀ d ∈ L, d.2.1.size ≤ maxLen

set_option maxHeartbeats 400000 in
theorem Long_calls (A : Option Addr) (cap : Nat) (L : List Act) (w : World) (hA : Dos w A L) (hl : L.length ≤ 60) :
    Calls Try.prog 9 #[.slice A L.length cap] w fun e w' => (∃ m : Int, e = .returned (.int .i64 m)) ∧ Below w.heap.size w w' := by
  go_enter Try.func9, Try.ntmps9
  go_wp2_with fail
  go_loopw [3, 4] (fun m i wr => ∃ (k : Nat) (n : Int), k ≤ L.length ∧ i = .int .i64 k ∧ m = .int .i64 n ∧ Hid (Below w.heap.size w wr)) (fun _ i _ => L.length - (intOf i).toNat)
  case atStart => exact ⟨0, 0, Nat.zero_le _, rfl, rfl, Below.refl _ _⟩
  case round =>
    obtain ⟨k, n, hkl, rfl, rfl, HB⟩ := hrel
    by_cases hlt : k < L.length
    · obtain ⟨a, rfl, c0, c1, c2⟩ := hA.keep (HB.out.mono (Nat.le_refl _)) k hlt
      go_wp2
      go_roundw
      case rel => exact ⟨k + 1, _, by omega, by go_num, rfl, HB⟩
      case measure => simp [intOf]; omega
    · go_wp2
      go_ret
      exact ⟨⟨_, rfl⟩, HB⟩

/-- what is told, and what is then -/
def stepL (room : Nat) (l : PL) (d : Act) : PL × Int × Bool :=
  if d.1 = 1 then ((put room l d.2.1 d.2.2).1, 0, (put room l d.2.1 d.2.2).2) else if d.1 = 2 then (get l d.2.1, getv l d.2.1, has l d.2.1) else if d.1 = 3 then (del l d.2.1, 0, has l d.2.1) else (l, 0, false)
abbrev dval (d : Act) : Value := .agg #[.int .i64 d.1, .string d.2.1, .int .i64 d.2.2]
abbrev dbox (d : Act) : Obj := .cells #[.int .i64 d.1, .string d.2.1, .int .i64 d.2.2] 34

theorem Kept.after {own own' : List Nat} {w w1 w' : World} (h1 : Only own w w1) (h2 : Kept own w1 own' w') : Kept own w own' w' := ⟨h1.also h2.1, fun x hx => (h2.2 x hx).imp id (fun h => Nat.le_trans h1.size h)⟩

set_option maxHeartbeats 1000000 in
theorem did_calls {w : World} {own : List Nat} {t room : Nat} {l : PL} (h : Tbl w own t room l) (d : Act) (hk : d.2.1.size ≤ maxLen) :
    Calls Try.prog 13 #[.pointer (some ⟨t, 0, none⟩), dval d] w fun e w' => ∃ own', e = .returned (.tuple #[.int .i64 (stepL room l d).2.1, .bool (stepL room l d).2.2]) ∧ Tbl w' own' t room (stepL room l d).1 ∧ Kept own w own' w' := by
  obtain ⟨kind, key, n⟩ := d
  simp only at hk
  have H := Lib.hid (h.alloc (dbox (kind, key, n)))
  have O : Hid (Only own w (w.alloc (dbox (kind, key, n)))) := Lib.hid ((Only.refl own w).alloc _)
  clear h
  by_cases h1 : kind = 1
  · subst h1
    have E := Lib.hid (show stepL room l (1, key, n) = ((put room l key n).1, 0, (put room l key n).2) from rfl)
    go_enter Try.func13, Try.ntmps13
    go_wp2_with fail
    refine (Put_calls H.out key hk n).mono ?_
    rintro e w1 ⟨own', rfl, h2, k2⟩
    have H2 := Lib.hid h2
    have K2 := Lib.hid (k2.after O.out)
    clear h2 k2
    go_wp2_with fail
    go_ret2
    rw [E.out]
    exact ⟨own', rfl, H2.out, K2.out⟩
  · have t1 : (kind == 1) = false := beq_eq_false_iff_ne.2 h1
    by_cases h2 : kind = 2
    · subst h2
      have E := Lib.hid (show stepL room l (2, key, n) = (get l key, getv l key, has l key) from rfl)
      clear h1 t1
      go_enter Try.func13, Try.ntmps13
      go_wp2_with fail
      refine (Get_calls H.out key hk).mono ?_
      rintro e w1 ⟨own', rfl, h2, k2⟩
      have H2 := Lib.hid h2
      have K2 := Lib.hid (k2.after O.out)
      clear h2 k2
      go_wp2_with fail
      go_ret2
      rw [E.out]
      exact ⟨own', rfl, H2.out, K2.out⟩
    · have t2 : (kind == 2) = false := beq_eq_false_iff_ne.2 h2
      by_cases h3 : kind = 3
      · subst h3
        have E := Lib.hid (show stepL room l (3, key, n) = (del l key, 0, has l key) from rfl)
        clear h1 t1 h2 t2
        go_enter Try.func13, Try.ntmps13
        go_wp2_with fail
        refine (Delete_calls H.out key hk).mono ?_
        rintro e w1 ⟨own', rfl, h2, k2⟩
        have H2 := Lib.hid h2
        have K2 := Lib.hid (k2.after O.out)
        clear h2 k2
        go_wp2_with fail
        go_ret2
        rw [E.out]
        exact ⟨own', rfl, H2.out, K2.out⟩
      · have t3 : (kind == 3) = false := beq_eq_false_iff_ne.2 h3
        have E := Lib.hid (show stepL room l (kind, key, n) = (l, 0, false) by unfold stepL; simp only [h1, h2, h3, if_false])
        clear h1 h2 h3
        go_enter Try.func13, Try.ntmps13
        go_wp2_with fail
        go_ret2
        rw [E.out]
        exact ⟨own, rfl, H.out, O.out, fun x hx => .inl hx⟩

/-- a row of texts of the call's own -/
def SRow (w : World) (B : Nat) (v : Value) (ps : List ByteArray) : Prop := w.ownsRow B 9 1 v ps.length (ps.map fun p => .string p)
theorem SRow.view {w : World} {B : Nat} {v : Value} {ps : List ByteArray} (h : SRow w B v ps) : ∃ A cap, v = .slice A ps.length cap ∧ Hs.Texts w A ps := by
  rcases h.2 with ⟨rfl, h0⟩ | ⟨g, cap, cur, rfl, _⟩
  · obtain rfl : ps = [] := List.eq_nil_of_length_eq_zero h0
    exact ⟨none, 0, rfl, Hs.Texts.nil _ _⟩
  · refine ⟨some ⟨g, 0, none⟩, cap, rfl, fun i hi => ⟨_, rfl, ?_⟩⟩
    exact World.ownsRow.cells h (g := g) rfl i _ (by simp [hi])
theorem SRow.below {w w' : World} {B : Nat} {v : Value} {ps : List ByteArray} (h : SRow w B v ps) (hb : Below w.heap.size w w') : SRow w' B v ps := by
  refine ⟨h.1, ?_⟩
  rcases h.2 with h2 | ⟨g, cap, cur, hv, hB, hg, r⟩
  · exact .inl h2
  · exact .inr ⟨g, cap, cur, hv, hB, by rw [hb.block g (Array.getElem?_eq_some_iff.1 hg).1]; exact hg, r⟩
theorem keys_row {w : World} {B : Nat} {v : Value} {l : PL} (h : w.ownsRow B 9 1 v l.length (l.map fun x => .string x.1)) : SRow w B v (l.map (·.1)) := by
  unfold SRow
  rw [List.length_map, List.map_map]
  exact h
theorem same_self (ps : List ByteArray) : Hs.sameB ps ps = true := by simp [Hs.sameB]

theorem cell2_row (w : World) (a b : ByteArray) : ∀ j u, [Value.string a, Value.string b][j]? = some u → (w.alloc (.cells #[.string a, .string b] 9)).cell? ((⟨w.heap.size, 0, none⟩ : Addr).add j) = some u := fun j u hj => by
  have : ((⟨w.heap.size, 0, none⟩ : Addr).add j) = ⟨w.heap.size, j, none⟩ := by unfold Addr.add; split <;> simp_all
  rw [this, cell_of_row _ _ _ _ _ _ (heap_alloc_new w _)]
  simpa using hj
theorem texts2 (w : World) (a b : ByteArray) : Hs.Texts (w.alloc (.cells #[.string a, .string b] 9)) (some ⟨w.heap.size, 0, none⟩) [a, b] := fun i hi => by
  refine ⟨_, rfl, cell2_row w a b i _ ?_⟩
  have : i < 2 := hi
  match i, this with
  | 0, _ => rfl
  | 1, _ => rfl

/-- blocks of other kinds are as they were -/
def Far (w w' : World) : Prop := ∀ (b : Nat) (cur : Array Value) (ty : TypeId) (fz : Nat × Nat), w.heap[b]? = some (.cells cur ty fz) → (ty ≠ 63 ∧ ty ≠ 75 ∧ ty ≠ 80 ∧ ty ≠ 3) → w'.heap[b]? = some (.cells cur ty fz)
theorem Far.refl (w : World) : Far w w := fun _ _ _ _ h _ => h
theorem Far.trans {a b c : World} (h : Far a b) (k : Far b c) : Far a c := fun x cur ty fz hx ht => k x cur ty fz (h x cur ty fz hx ht) ht
theorem Far.of_below {w w' : World} (hb : Below w.heap.size w w') : Far w w' := fun b _ _ _ h _ => by rw [hb.block b (Array.getElem?_eq_some_iff.1 h).1]; exact h
theorem Far.of_only {w w' : World} {own : List Nat} {t room : Nat} {l : PL} (T : Tbl w own t room l) (hb : Only own w w') : Far w w' := fun b _ _ _ h ht => by
  rw [hb.block b (Array.getElem?_eq_some_iff.1 h).1 (T.apart h ht)]; exact h
theorem SRow.far {w w' : World} {B : Nat} {v : Value} {ps : List ByteArray} (h : SRow w B v ps) (hf : Far w w') : SRow w' B v ps := by
  refine ⟨h.1, ?_⟩
  rcases h.2 with h2 | ⟨g, cap, cur, hv, hB, hg, r⟩
  · exact .inl h2
  · exact .inr ⟨g, cap, cur, hv, hB, hf _ _ _ _ hg (by decide), r⟩

/-- a table that the call has made: w0 the world when it began -/
def Mine (w0 w : World) (t room : Nat) (l : PL) : Prop := Below w0.heap.size w0 w ∧ ∃ own, Tbl w own t room l ∧ ∀ x ∈ own, w0.heap.size ≤ x
theorem Mine.below {w0 w w' : World} {t room : Nat} {l : PL} (h : Mine w0 w t room l) (hb : Below w.heap.size w w') : Mine w0 w' t room l := by
  obtain ⟨h1, own, h2, h3⟩ := h
  exact ⟨h1.trans (hb.mono h1.size), own, h2.below hb, h3⟩
theorem Mine.alloc {w0 w : World} {t room : Nat} {l : PL} (h : Mine w0 w t room l) (o : Obj) : Mine w0 (w.alloc o) t room l := h.below ((Below.refl _ _).alloc (Nat.le_refl _) _)
theorem Mine.drewN {w0 w : World} {t room : Nat} {l : PL} (h : Mine w0 w t room l) (n : Nat) : Mine w0 (w.drewN n) t room l := h.below (below_drewN (Below.refl _ _) n)
theorem Mine.len_le {w0 w : World} {t room : Nat} {l : PL} (h : Mine w0 w t room l) : l.length ≤ room ∧ room ≤ 10000 := by obtain ⟨_, own, h2, _⟩ := h; exact h2.len_le
theorem Mine.nodup {w0 w : World} {t room : Nat} {l : PL} (h : Mine w0 w t room l) : (l.map (·.1)).Nodup := by obtain ⟨_, own, h2, _⟩ := h; exact h2.nodup
theorem Mine.step {w0 w w' : World} {t room : Nat} {l l' : PL} (h : Mine w0 w t room l) (hs : ∀ own, Tbl w own t room l → ∃ own', Tbl w' own' t room l' ∧ Kept own w own' w') : Mine w0 w' t room l' ∧ Far w w' := by
  obtain ⟨h1, own, h2, h3⟩ := h
  obtain ⟨own', a, b⟩ := hs own h2
  refine ⟨⟨b.1.below h1 h3 h1.size, own', a, fun x hx => (b.2 x hx).elim (h3 x) (fun h => Nat.le_trans h1.size h)⟩, Far.of_only h2 b.1⟩

theorem mNew (room : Int) (hr : -9223372036854775808 ≤ room ∧ room < 9223372036854775808) {w0 w : World} (hb : Below w0.heap.size w0 w) :
    Calls Try.prog 11 #[.int .i64 room] w fun e w' => ∃ t, e = .returned (.pointer (some ⟨t, 0, none⟩)) ∧ Mine w0 w' t (clipR room) [] ∧ Below w.heap.size w w' :=
  (new_calls room hr w).mono fun _ _ ⟨t, own, he, h1, h2, h3⟩ => ⟨t, he, ⟨hb.trans (h2.mono hb.size), own, h1, fun x hx => Nat.le_trans hb.size (h3 x hx)⟩, h2⟩
section
variable {w0 w : World} {t room : Nat} {l : PL}
theorem mPut (h : Mine w0 w t room l) (key : ByteArray) (hk : key.size ≤ maxLen) (v : Int) :
    Calls Try.prog 24 #[.pointer (some ⟨t, 0, none⟩), .string key, .int .i64 v] w fun e w' => e = .returned (.bool (put room l key v).2) ∧ Mine w0 w' t room (put room l key v).1 ∧ Far w w' := by
  obtain ⟨h1, own, h2, h3⟩ := h
  exact (Put_calls h2 key hk v).mono fun _ _ ⟨own', he, a, b⟩ => ⟨he, ⟨b.1.below h1 h3 h1.size, own', a, fun x hx => (b.2 x hx).elim (h3 x) (fun h => Nat.le_trans h1.size h)⟩, Far.of_only h2 b.1⟩
theorem mGet (h : Mine w0 w t room l) (key : ByteArray) (hk : key.size ≤ maxLen) :
    Calls Try.prog 26 #[.pointer (some ⟨t, 0, none⟩), .string key] w fun e w' => e = .returned (.tuple #[.int .i64 (getv l key), .bool (has l key)]) ∧ Mine w0 w' t room (get l key) ∧ Far w w' := by
  obtain ⟨h1, own, h2, h3⟩ := h
  exact (Get_calls h2 key hk).mono fun _ _ ⟨own', he, a, b⟩ => ⟨he, ⟨b.1.below h1 h3 h1.size, own', a, fun x hx => (b.2 x hx).elim (h3 x) (fun h => Nat.le_trans h1.size h)⟩, Far.of_only h2 b.1⟩
theorem mDelete (h : Mine w0 w t room l) (key : ByteArray) (hk : key.size ≤ maxLen) :
    Calls Try.prog 25 #[.pointer (some ⟨t, 0, none⟩), .string key] w fun e w' => e = .returned (.bool (has l key)) ∧ Mine w0 w' t room (del l key) ∧ Far w w' := by
  obtain ⟨h1, own, h2, h3⟩ := h
  exact (Delete_calls h2 key hk).mono fun _ _ ⟨own', he, a, b⟩ => ⟨he, ⟨b.1.below h1 h3 h1.size, own', a, fun x hx => (b.2 x hx).elim (h3 x) (fun h => Nat.le_trans h1.size h)⟩, Far.of_only h2 b.1⟩
theorem mDid (h : Mine w0 w t room l) (d : Act) (hk : d.2.1.size ≤ maxLen) :
    Calls Try.prog 13 #[.pointer (some ⟨t, 0, none⟩), dval d] w fun e w' => e = .returned (.tuple #[.int .i64 (stepL room l d).2.1, .bool (stepL room l d).2.2]) ∧ Mine w0 w' t room (stepL room l d).1 ∧ Far w w' := by
  obtain ⟨h1, own, h2, h3⟩ := h
  exact (did_calls h2 d hk).mono fun _ _ ⟨own', he, a, b⟩ => ⟨he, ⟨b.1.below h1 h3 h1.size, own', a, fun x hx => (b.2 x hx).elim (h3 x) (fun h => Nat.le_trans h1.size h)⟩, Far.of_only h2 b.1⟩
theorem mPeek (h : Mine w0 w t room l) (key : ByteArray) (hk : key.size ≤ maxLen) :
    Calls Try.prog 15 #[.pointer (some ⟨t, 0, none⟩), .string key] w fun e w' => e = .returned (.tuple #[.int .i64 (getv l key), .bool (has l key)]) ∧ Mine w0 w' t room l ∧ Below w.heap.size w w' :=
  by obtain ⟨h1, own, h2, h3⟩ := h; exact (Peek_calls h2 key hk).mono fun _ _ ⟨he, hb⟩ => ⟨he, Mine.below ⟨h1, own, h2, h3⟩ hb, hb⟩
theorem mNext (h : Mine w0 w t room l) (key : ByteArray) (hk : key.size ≤ maxLen) :
    Calls Try.prog 17 #[.pointer (some ⟨t, 0, none⟩), .string key] w fun e w' => e = .returned (.tuple #[.string (nxt l key).1, .bool (nxt l key).2]) ∧ Mine w0 w' t room l ∧ Below w.heap.size w w' :=
  by obtain ⟨h1, own, h2, h3⟩ := h; exact (Next_calls h2 key hk).mono fun _ _ ⟨he, hb⟩ => ⟨he, Mine.below ⟨h1, own, h2, h3⟩ hb, hb⟩
theorem mOldest (h : Mine w0 w t room l) :
    Calls Try.prog 23 #[.pointer (some ⟨t, 0, none⟩)] w fun e w' => e = .returned (.tuple #[.string (oldest l).1, .int .i64 (oldest l).2.1, .bool (oldest l).2.2]) ∧ Mine w0 w' t room l ∧ Below w.heap.size w w' :=
  by obtain ⟨h1, own, h2, h3⟩ := h; exact (Oldest_calls h2).mono fun _ _ ⟨he, hb⟩ => ⟨he, Mine.below ⟨h1, own, h2, h3⟩ hb, hb⟩
theorem mLen (h : Mine w0 w t room l) : Calls Try.prog 22 #[.pointer (some ⟨t, 0, none⟩)] w fun e w' => e = .returned (.int .i64 (l.length : Nat)) ∧ w = w' := by
  obtain ⟨h1, own, h2, h3⟩ := h; exact Len_calls h2
theorem mKeys (h : Mine w0 w t room l) :
    Calls Try.prog 20 #[.pointer (some ⟨t, 0, none⟩)] w fun e w' => ∃ A cap, e = .returned (.slice A l.length cap) ∧ SRow w' w.heap.size (.slice A l.length cap) (l.map (·.1)) ∧ Mine w0 w' t room l ∧ Below w.heap.size w w' := by
  obtain ⟨h1, own, h2, h3⟩ := h
  refine (Keys_calls h2).mono fun _ _ ⟨v, he, hr, hb⟩ => ?_
  have hs := keys_row hr
  obtain ⟨A, cap, rfl, _⟩ := hs.view
  rw [List.length_map] at he hs
  exact ⟨A, cap, he, hs, Mine.below ⟨h1, own, h2, h3⟩ hb, hb⟩
end
theorem SRow.texts {w : World} {B cap n : Nat} {A : Option Addr} {ps : List ByteArray} (h : SRow w B (.slice A n cap) ps) : n = ps.length ∧ Hs.Texts w A ps := by
  obtain ⟨A2, cap2, e, ht⟩ := h.view
  injection e with e1 e2 e3
  subst e1
  exact ⟨e2, ht⟩

set_option maxHeartbeats 1000000 in
theorem known_calls (w : World) : Calls Try.prog 10 #[] w fun e w' => e = .returned (.bool true) ∧ Below w.heap.size w w' := by
  go_enter Try.func10, Try.ntmps10
  go_wp2_with fail
  refine (mNew 2 (by omega) (Below.refl w.heap.size w)).mono ?_
  rintro e w1 ⟨t, rfl, h1, -⟩
  have H1 : Hid (Mine w w1 t 2 []) := Lib.hid h1
  clear h1
  go_wp2_with fail
  refine (mPut H1.out ⟨#[97]⟩ (by decide) 1).mono ?_
  rw [show put 2 [] ⟨#[97]⟩ 1 = ([(⟨#[97]⟩, 1)], true) by decide]
  rintro e w2 ⟨rfl, h2, -⟩
  have H2 := Lib.hid h2
  clear h2 H1
  go_wp2_with fail
  refine (mPut H2.out ⟨#[98]⟩ (by decide) 2).mono ?_
  rw [show put 2 [(⟨#[97]⟩, 1)] ⟨#[98]⟩ 2 = ([(⟨#[97]⟩, 1), (⟨#[98]⟩, 2)], true) by decide]
  rintro e w3 ⟨rfl, h3, -⟩
  have H3 := Lib.hid h3
  clear h3 H2
  go_wp2_with fail
  refine (mGet H3.out ⟨#[97]⟩ (by decide)).mono ?_
  rw [show get [(⟨#[97]⟩, 1), (⟨#[98]⟩, 2)] ⟨#[97]⟩ = [(⟨#[98]⟩, 2), (⟨#[97]⟩, 1)] by decide, show getv [(⟨#[97]⟩, 1), (⟨#[98]⟩, 2)] ⟨#[97]⟩ = 1 by decide, show has [(⟨#[97]⟩, 1), (⟨#[98]⟩, 2)] ⟨#[97]⟩ = true by decide]
  rintro e w4 ⟨rfl, h4, -⟩
  have H4 := Lib.hid h4
  clear h4 H3
  go_wp2_with fail
  refine (mPut H4.out ⟨#[99]⟩ (by decide) 3).mono ?_
  rw [show put 2 [(⟨#[98]⟩, 2), (⟨#[97]⟩, 1)] ⟨#[99]⟩ 3 = ([(⟨#[98]⟩, 2), (⟨#[97]⟩, 1)], false) by decide]
  rintro e w5 ⟨rfl, h5, -⟩
  have H5 := Lib.hid h5
  clear h5 H4
  go_wp2_with fail
  refine (mKeys H5.out).mono ?_
  rintro e w6 ⟨A, cap, rfl, hr, h6, -⟩
  have H6 := Lib.hid h6
  have HT := Lib.hid (SRow.below hr ((Below.refl _ _).alloc (Nat.le_refl _) (.cells #[.string ⟨#[98]⟩, .string ⟨#[97]⟩] 9))).texts.2
  have H7 := Lib.hid (h6.alloc (.cells #[.string ⟨#[98]⟩, .string ⟨#[97]⟩] 9))
  clear h6 hr H5
  go_wp2_with fail
  have hsame := Hs.same_calls A (some ⟨w6.heap.size, 0, none⟩) cap 2 [⟨#[98]⟩, ⟨#[97]⟩] [⟨#[98]⟩, ⟨#[97]⟩] _ HT.out (texts2 w6 ⟨#[98]⟩ ⟨#[97]⟩) (by decide)
  rw [same_self] at hsame
  refine hsame.mono ?_
  rintro e w7 ⟨rfl, hb⟩
  have H8 := Lib.hid (H7.out.below hb)
  clear hb
  go_wp2_with fail
  refine (Len_nil _).mono ?_
  rintro e w8 ⟨rfl, rfl⟩
  go_wp2_with fail
  go_ret
  exact ⟨rfl, H8.out.1⟩

end Go.Proofs.Ytdnaecmihgcelaa.Tb
