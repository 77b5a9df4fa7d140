/-
  What a table's state has to be (Good); what its links become; number, peek, get, next.
-/
import Derived.Test.YtdnaecmihgcelaaTabA
import Derived.StillTailTactics
import Derived.BigQuiet
namespace Go.Proofs.Ytdnaecmihgcelaa.Tb
open Go.RowKit

theorem Ring.fmem {f g : Nat → Nat} {b : Nat} : ∀ {l : List Nat} {a : Nat}, Ring f g a l b → ∀ x ∈ a :: l, f x ∈ l ++ [b]
  | [], a, h, x, hx => by simp at hx; subst hx; simp [h.1]
  | y :: l, a, h, x, hx => by
    rcases List.mem_cons.1 hx with rfl | hx
    · rw [h.1.1]; simp
    · exact List.mem_cons_of_mem _ (h.2.fmem x hx)
theorem Ring.gmem {f g : Nat → Nat} {b : Nat} : ∀ {l : List Nat} {a : Nat}, Ring f g a l b → ∀ x ∈ l ++ [b], g x ∈ a :: l
  | [], a, h, x, hx => by simp at hx; subst hx; simp [h.2]
  | y :: l, a, h, x, hx => by
    rcases List.mem_cons.1 hx with rfl | hx
    · rw [h.1.2]; simp
    · exact List.mem_cons_of_mem _ (h.2.gmem x hx)

def hm (S : Sm) (i : Nat) : Nat := home S.M (S.sm i)
def occ (S : Sm) (i : Nat) : Prop := 1 ≤ i ∧ i ≤ S.n
structure Good (S : Sm) (ids : List Nat) : Prop where
  ring : Ring S.new S.old 0 ids 0
  nd : ids.Nodup
  mem : ∀ i, i ∈ ids ↔ (1 ≤ i ∧ i ≤ S.n)
  sums : ∀ i, 1 ≤ i → i ≤ S.n → S.sm i = Hs.sum (S.key i).data.toList
  keys : ∀ i j, 1 ≤ i → i ≤ S.n → 1 ≤ j → j ≤ S.n → S.key i = S.key j → i = j
  key0 : S.key 0 = ⟨#[]⟩
  val0 : S.val 0 = 0
  seats : Seats S.M (hm S) S.pl (occ S)
  half : 2 * (S.n + 1) ≤ S.M
  fits : S.n ≤ S.room
  most : S.room ≤ 10000

def Bnd (S : Sm) : Prop := ∀ i, i ≤ S.n → S.old i ≤ S.n ∧ S.new i ≤ S.n
theorem Good.bnd {S : Sm} {ids : List Nat} (g : Good S ids) : Bnd S := by
  have h1 : ∀ x, x ∈ (0 :: ids) → x ≤ S.n := fun x hx => by
    rcases List.mem_cons.1 hx with rfl | hx
    · omega
    · exact ((g.mem x).1 hx).2
  have h2 : ∀ x, x ∈ (ids ++ [0]) → x ≤ S.n := fun x hx => h1 x (by simpa [or_comm] using hx)
  intro i hi
  have hi0 : i ∈ 0 :: ids := by
    by_cases h : i = 0
    · simp [h]
    · exact List.mem_cons_of_mem _ ((g.mem i).2 ⟨by omega, hi⟩)
  exact ⟨h1 _ (g.ring.gmem i (by simpa [or_comm] using hi0)), h2 _ (g.ring.fmem i hi0)⟩
theorem Good.low {S : Sm} {ids : List Nat} (g : Good S ids) (p : Nat) (hp : p < S.M) : S.pl p ≤ S.n := by
  by_cases h : S.pl p = 0
  · omega
  · exact (g.seats.mem p hp h).2
theorem Good.free {S : Sm} {ids : List Nat} (g : Good S ids) : ∃ q, q < S.M ∧ S.pl q = 0 := g.seats.free (fun i h => h.2) (by have := g.half; omega)
theorem Good.nd1 {S : Sm} {ids : List Nat} (g : Good S ids) : (0 :: ids).Nodup := List.nodup_cons.2 ⟨fun h => by have := (g.mem 0).1 h; omega, g.nd⟩
theorem Good.nd2 {S : Sm} {ids : List Nat} (g : Good S ids) : (ids ++ [0]).Nodup := by
  rw [List.nodup_append]
  exact ⟨g.nd, by simp, fun a ha b hb => by simp at hb; subst hb; rintro rfl; have := (g.mem 0).1 ha; omega⟩

abbrev Sm.tie (S : Sm) (a b : Nat) : Sm := (S.setNew a b).setOld b a
abbrev Sm.leave (S : Sm) (i : Nat) : Sm := S.tie (S.old i) (S.new i)
abbrev Sm.join (S : Sm) (i : Nat) : Sm := (S.tie (S.old 0) i).tie i 0
abbrev Sm.renew (S : Sm) (i : Nat) : Sm := (S.leave i).join i

theorem leave_calls {w : World} {L : Lay} {S : Sm} (h : At w L S) {i : Nat} (hi : i ≤ S.n) (hb : Bnd S) :
    Calls Try.prog 47 #[.pointer (some ⟨L.ob, 0, none⟩), .int .i64 (i : Nat)] w fun e w' => e = .returned (.tuple #[]) ∧ At w' L (S.leave i) ∧ Only L.own w w' := by
  have c1 := h.entc
  have c2 := h.old hi
  have c3 := h.new hi
  have nn := h.nn
  have H := Lib.hid h
  have HB := Lib.hid (hb i hi)
  clear h hb
  go_enter Try.func47, Try.ntmps47
  have b0 : ¬ ((i : Int) < 0) := by omega
  have b1 : (i : Int) < (S.n : Int) + 1 := by omega
  go_still_tail 17, (by kernel_rfl)
  change wpList _ _ _ _ _ w.drew
  have HD := Lib.hid H.out.drew
  have HO : Hid (Only L.own w w.drew) := Lib.hid (Only.refl _ _).drew
  generalize w.drew = w2 at HD HO ⊢
  clear c1 c2 c3
  go_wp2_with fail
  refine (tie_calls HD.out HB.out.1 HB.out.2).mono ?_
  rintro e w1 ⟨rfl, h1, o1⟩
  go_wp2_with fail
  go_end0
  exact ⟨rfl, h1, HO.out.also o1⟩

theorem join_calls {w : World} {L : Lay} {S : Sm} (h : At w L S) {i : Nat} (hi : i ≤ S.n) (hb : S.old 0 ≤ S.n) :
    Calls Try.prog 51 #[.pointer (some ⟨L.ob, 0, none⟩), .int .i64 (i : Nat)] w fun e w' => e = .returned (.tuple #[]) ∧ At w' L (S.join i) ∧ Only L.own w w' := by
  have c1 := h.entc
  have c2 := h.old (i := 0) (by omega)
  have nn := h.nn
  have H := Lib.hid h
  clear h
  simp only [Nat.zero_mul] at c2
  go_enter Try.func51, Try.ntmps51
  go_wp2_with fail
  refine (tie_calls H.out hb hi).mono ?_
  rintro e w1 ⟨rfl, h1, o1⟩
  clear c1 c2
  go_wp2_with fail
  refine (tie_calls (a := i) (b := 0) h1 hi (by omega)).mono ?_
  rintro e w2 ⟨rfl, h2, o2⟩
  go_wp2_with fail
  go_end0
  exact ⟨rfl, h2, o1.also o2⟩

theorem upd_le {f : Nat → Nat} {n i v : Nat} (hf : ∀ j, j ≤ n → f j ≤ n) (hv : v ≤ n) : ∀ j, j ≤ n → upd f i v j ≤ n := fun j hj => by
  by_cases e : j = i
  · rw [e, upd_same]; exact hv
  · rw [upd_ne _ _ e]; exact hf j hj
theorem Bnd.tie {S : Sm} (h : Bnd S) {a b : Nat} (ha : a ≤ S.n) (hb : b ≤ S.n) : Bnd (S.tie a b) := fun i hi => ⟨upd_le (fun j hj => (h j hj).1) ha i hi, upd_le (fun j hj => (h j hj).2) hb i hi⟩
theorem Bnd.leave {S : Sm} (h : Bnd S) {i : Nat} (hi : i ≤ S.n) : Bnd (S.leave i) := h.tie (h i hi).1 (h i hi).2

theorem renew_calls {w : World} {L : Lay} {S : Sm} (h : At w L S) {i : Nat} (hi : i ≤ S.n) (hb : Bnd S) :
    Calls Try.prog 44 #[.pointer (some ⟨L.ob, 0, none⟩), .int .i64 (i : Nat)] w fun e w' => e = .returned (.tuple #[]) ∧ At w' L (S.renew i) ∧ Only L.own w w' := by
  have H := Lib.hid h
  have HB := Lib.hid hb
  clear h hb
  go_enter Try.func44, Try.ntmps44
  go_wp2_with fail
  refine (leave_calls H.out hi HB.out).mono ?_
  rintro e w1 ⟨rfl, h1, o1⟩
  go_wp2_with fail
  refine (join_calls h1 (i := i) hi ((HB.out.leave hi) 0 (Nat.zero_le _)).1).mono ?_
  rintro e w2 ⟨rfl, h2, o2⟩
  go_wp2_with fail
  go_end0
  exact ⟨rfl, h2, o1.also o2⟩

theorem Good.renew {S : Sm} {l1 l2 : List Nat} {i : Nat} (g : Good S (l1 ++ i :: l2)) : Good (S.renew i) (l1 ++ l2 ++ [i]) := by
  have h1 := g.ring.leave g.nd1 g.nd2
  have hperm : ∀ x, x ∈ l1 ++ l2 ++ [i] ↔ x ∈ l1 ++ i :: l2 := fun x => by simp; constructor <;> (intro h; rcases h with h | h | h <;> simp [h])
  have hnd : (l1 ++ l2 ++ [i]).Nodup := by
    have := g.nd
    rw [List.nodup_append] at this ⊢
    obtain ⟨a, b, c⟩ := this
    rw [List.nodup_cons] at b
    rw [List.nodup_append]
    refine ⟨⟨a, b.2, fun x hx y hy => c x hx y (List.mem_cons_of_mem _ hy)⟩, by simp, ?_⟩
    intro x hx y hy
    simp at hy
    subst hy
    rcases List.mem_append.1 hx with hx | hx
    · exact c x hx y (by simp)
    · rintro rfl; exact b.1 hx
  have hi0 : i ≠ 0 := fun e => by have := (g.mem i).1 (by simp); omega
  have hni : i ∉ l1 ++ l2 := fun hc => by
    rw [List.nodup_append] at hnd
    exact hnd.2.2 i hc i (by simp) rfl
  have h2 := h1.join (i := i) (fun hc => (List.mem_cons.1 hc).elim hi0 hni) hi0 (by
    have := g.nd2
    have e2 : ((l1 ++ l2) ++ [0]).Sublist ((l1 ++ i :: l2) ++ [0]) := by
      refine List.Sublist.append (List.Sublist.append (List.Sublist.refl _) (List.sublist_cons_self _ _)) (List.Sublist.refl _)
    exact this.sublist e2)
  exact ⟨h2, hnd, fun x => (hperm x).trans (g.mem x), g.sums, g.keys, g.key0, g.val0, g.seats, g.half, g.fits, g.most⟩

theorem Good.setVal {S : Sm} {ids : List Nat} (g : Good S ids) {i : Nat} (hi : i ≠ 0) (v : Int) : Good (S.setVal i v) ids :=
  ⟨g.ring, g.nd, g.mem, g.sums, g.keys, g.key0, by show upd S.val i v 0 = 0; rw [upd_ne _ _ (Ne.symm hi)]; exact g.val0, g.seats, g.half, g.fits, g.most⟩

def Num (S : Sm) (key : ByteArray) (i : Nat) : Prop := (1 ≤ i ∧ i ≤ S.n ∧ S.key i = key) ∨ (i = 0 ∧ ∀ j, 1 ≤ j → j ≤ S.n → S.key j ≠ key)
theorem Num.le {S : Sm} {key : ByteArray} {i : Nat} (h : Num S key i) : i ≤ S.n := by rcases h with h | h <;> omega
theorem Num.unique {S : Sm} {ids : List Nat} {key : ByteArray} {i j : Nat} (h1 : Num S key i) (g : Good S ids) (h2 : Num S key j) : i = j := by
  rcases h1 with ⟨a1, a2, a3⟩ | ⟨a1, a2⟩ <;> rcases h2 with ⟨b1, b2, b3⟩ | ⟨b1, b2⟩
  · exact g.keys i j a1 a2 b1 b2 (by rw [a3, b3])
  · exact absurd a3 (b2 i a1 a2)
  · exact absurd b3 (a2 j b1 b2)
  · rw [a1, b1]
theorem num_exists (S : Sm) (key : ByteArray) : ∃ i, Num S key i := by
  by_cases hx : ∃ i, 1 ≤ i ∧ i ≤ S.n ∧ S.key i = key
  · obtain ⟨i, h1, h2, h3⟩ := hx
    exact ⟨i, .inl ⟨h1, h2, h3⟩⟩
  · exact ⟨0, .inr ⟨rfl, fun j h1 h2 h3 => hx ⟨j, h1, h2, h3⟩⟩⟩
theorem Good.found {S : Sm} {ids : List Nat} (g : Good S ids) {key : ByteArray} {p : Nat} (hM : Pow S.M) (hf : Found S.M S.pl (fun i => S.sm i = Hs.sum key.data.toList ∧ S.key i = key) (home S.M (Hs.sum key.data.toList)) p) :
    p < S.M ∧ Num S key (S.pl p) := by
  refine ⟨hf.lt (home_lt hM _), ?_⟩
  by_cases hx : ∃ i, 1 ≤ i ∧ i ≤ S.n ∧ S.key i = key
  · obtain ⟨i, h1, h2, h3⟩ := hx
    have hs := g.sums i h1 h2
    rw [h3] at hs
    have := g.seats.hit (i := i) (p := p) (Mt := fun i => S.sm i = Hs.sum key.data.toList ∧ S.key i = key) ⟨h1, h2⟩ ⟨hs, h3⟩ (fun j hj hm => g.keys j i hj.1 hj.2 h1 h2 (by rw [hm.2, h3])) (by unfold hm; rw [hs]; exact hf)
    rw [this]
    exact .inl ⟨h1, h2, h3⟩
  · have hn : ∀ j, 1 ≤ j → j ≤ S.n → S.key j ≠ key := fun j h1 h2 h3 => hx ⟨j, h1, h2, h3⟩
    have := g.seats.miss (home_lt hM _) (fun j hj hm => hn j hj.1 hj.2 hm.2) hf
    exact .inr ⟨this, hn⟩

theorem Good.at_ {S : Sm} {ids : List Nat} (g : Good S ids) (hM : Pow S.M) (key : ByteArray) : ∃ p, Found S.M S.pl (fun i => S.sm i = Hs.sum key.data.toList ∧ S.key i = key) (home S.M (Hs.sum key.data.toList)) p := by
  obtain ⟨q, hq, hq0⟩ := g.free
  exact Found.exists_ _ _ (home_lt hM _) hq hq0

theorem number_calls {w : World} {L : Lay} {S : Sm} {ids : List Nat} (h : At w L S) (g : Good S ids) (key : ByteArray) (hk : key.size ≤ maxLen) {i : Nat} (hi : Num S key i) :
    Calls Try.prog 41 #[.pointer (some ⟨L.ob, 0, none⟩), .string key] w fun e w' => e = .returned (.int .i64 (i : Nat)) ∧ Below w.heap.size w w' := by
  obtain ⟨p, hf⟩ := g.at_ h.pow key
  obtain ⟨hp, hn⟩ := g.found h.pow hf
  have e := hn.unique g hi
  subst e
  have c1 := h.plc
  have c2 := h.pl hp
  have hl := h.pow.le
  have H := Lib.hid h
  have G := Lib.hid g
  have HF := Lib.hid hf
  have HQ := Lib.hid g.free
  have HL := Lib.hid g.low
  clear h g hi hn hf
  have b0 : ¬ ((p : Int) < 0) := by omega
  have b1 : (p : Int) < (S.M : Int) := by omega
  have d0 : ∀ n, (w.drewN n).cell? ⟨L.ob, 2, none⟩ = some (.slice (some ⟨L.pb, 0, none⟩) S.M S.M) := fun n => c1
  have d1 : ∀ n, (w.drewN n).cell? ⟨L.pb, p, none⟩ = some (.int .i64 (S.pl p : Nat)) := fun n => c2
  go_enter Try.func41, Try.ntmps41
  go_wp2_with fail
  go_quiet (first | (go_at_call 46; refine Calls.quiet_of_same ((Hs.sum_calls key _ hk).mono fun _ _ h => ⟨h.1, h.2.symm⟩)) | (go_at_call 45; refine Calls.quiet_of_same ((seek_calls (H.out.drewN _) key (Hs.sum_lt _) HL.out HQ.out HF.out).mono fun _ _ h => ⟨h.1, h.2.symm⟩)))
  go_wp2_with fail
  go_ret
  exact ⟨rfl, below_drewN (Below.refl _ _) _⟩

theorem peek_calls {w : World} {L : Lay} {S : Sm} {ids : List Nat} (h : At w L S) (g : Good S ids) (key : ByteArray) (hk : key.size ≤ maxLen) {i : Nat} (hi : Num S key i) :
    Calls Try.prog 33 #[.pointer (some ⟨L.ob, 0, none⟩), .string key] w fun e w' => e = .returned (.tuple #[.int .i64 (S.val i), .bool (decide (i ≠ 0))]) ∧ Below w.heap.size w w' := by
  have H := Lib.hid h
  have G := Lib.hid g
  have HN := Lib.hid hi
  clear h g hi
  go_enter Try.func33, Try.ntmps33
  go_wp2_with fail
  refine (number_calls H.out G.out key hk HN.out).mono ?_
  rintro e w1 ⟨rfl, hb⟩
  have HB := Lib.hid hb
  have H1 := Lib.hid (H.out.below hb)
  clear hb
  go_wp2_with fail
  refine (value_calls H1.out HN.out.le).mono ?_
  rintro e w2 ⟨rfl, rfl⟩
  go_wp2_with fail
  go_ret2
  exact ⟨by rw [decide_not]; rfl, HB.out⟩

theorem get_calls {w : World} {L : Lay} {S : Sm} {ids : List Nat} (h : At w L S) (g : Good S ids) (key : ByteArray) (hk : key.size ≤ maxLen) {i : Nat} (hi : Num S key i) :
    Calls Try.prog 39 #[.pointer (some ⟨L.ob, 0, none⟩), .string key] w fun e w' => e = .returned (.tuple #[.int .i64 (S.val i), .bool (decide (i ≠ 0))]) ∧ At w' L (if i = 0 then S else S.renew i) ∧ Only L.own w w' := by
  have H := Lib.hid h
  have G := Lib.hid g
  have HN := Lib.hid hi
  clear h g hi
  go_enter Try.func39, Try.ntmps39
  go_wp2_with fail
  refine (number_calls H.out G.out key hk HN.out).mono ?_
  rintro e w1 ⟨rfl, hb⟩
  have HB : Hid (Only L.own w w1) := Lib.hid (Only.of_below _ hb)
  have H1 := Lib.hid (H.out.below hb)
  clear hb
  by_cases hz : i = 0
  · subst hz
    go_wp2_with fail
    refine (value_calls H1.out (i := 0) (Nat.zero_le _)).mono ?_
    rintro e w2 ⟨rfl, rfl⟩
    go_wp2_with fail
    go_ret2
    exact ⟨rfl, H1.out, HB.out⟩
  · have t1 : ((i : Int) != 0) = true := by rw [nz_eq]; simpa using hz
    have t2 : (i : Int) ≠ 0 := by omega
    have HZ := Lib.hid hz
    clear hz
    go_wp2_with fail
    refine (renew_calls H1.out HN.out.le G.out.bnd).mono ?_
    rintro e w2 ⟨rfl, h2, o2⟩
    have H2 := Lib.hid h2
    have O2 := Lib.hid (HB.out.also o2)
    clear h2 o2
    go_wp2_with fail
    refine (value_calls H2.out (i := i) HN.out.le).mono ?_
    rintro e w3 ⟨rfl, rfl⟩
    go_wp2_with fail
    go_ret2
    exact ⟨rfl, by first | exact H2.out | (rw [if_neg HZ.out]; exact H2.out), O2.out⟩

theorem next_calls {w : World} {L : Lay} {S : Sm} {ids : List Nat} (h : At w L S) (g : Good S ids) (key : ByteArray) (hk : key.size ≤ maxLen) {i : Nat} (hi : Num S key i) :
    Calls Try.prog 34 #[.pointer (some ⟨L.ob, 0, none⟩), .string key] w fun e w' => e = .returned (.tuple #[.string (if i = 0 then ⟨#[]⟩ else S.key (S.new i)), .bool (if i = 0 then false else decide (S.new i ≠ 0))]) ∧ Below w.heap.size w w' := by
  have H := Lib.hid h
  have G := Lib.hid g
  have HN := Lib.hid hi
  have hil := hi.le
  have nn := h.nn
  clear h g hi
  go_enter Try.func34, Try.ntmps34
  go_wp2_with fail
  refine (number_calls H.out G.out key hk HN.out).mono ?_
  rintro e w1 ⟨rfl, hb⟩
  have HB := Lib.hid hb
  have H1 := Lib.hid (H.out.below hb)
  clear hb
  have c1 := H1.out.entc
  by_cases hz : i = 0
  · subst hz
    go_wp2_with fail
    go_ret2
    exact ⟨rfl, HB.out⟩
  · have t1 : ((i : Int) == 0) = false := beq_eq_false_iff_ne.2 (by omega)
    have t2 : ¬ (i : Int) = 0 := by omega
    have c2 := H1.out.new hil
    have hnl := (G.out.bnd i hil).2
    have c3 := H1.out.key hnl
    have HZ := Lib.hid hz
    clear hz
    go_wp2_with fail
    go_ret2
    refine ⟨?_, HB.out⟩
    have e1 : ((S.new i : Int) != 0) = !decide (S.new i = 0) := by rw [nz_eq, decide_not]
    show Ending.returned (.tuple #[.string (S.key (S.new i)), .bool ((S.new i : Int) != 0)]) = _
    rw [e1]

end Go.Proofs.Ytdnaecmihgcelaa.Tb
