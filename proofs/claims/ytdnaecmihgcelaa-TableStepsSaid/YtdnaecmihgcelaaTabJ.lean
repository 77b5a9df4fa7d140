/-
  A table as a list of pairs: what its operations make of it; put, and the table's own methods.
-/
import Derived.Test.YtdnaecmihgcelaaTabI
namespace Go.Proofs.Ytdnaecmihgcelaa.Tb
open Go.RowKit

abbrev PL := List (ByteArray × Int)
def has (l : PL) (key : ByteArray) : Bool := l.any fun e => decide (e.1 = key)
def getv (l : PL) (key : ByteArray) : Int := ((l.find? fun e => decide (e.1 = key)).map (·.2)).getD 0
def del (l : PL) (key : ByteArray) : PL := l.filter fun e => decide (¬ e.1 = key)
def nxt : PL → ByteArray → ByteArray × Bool
  | a :: b :: r, key => if a.1 = key then (b.1, true) else nxt (b :: r) key
  | _, _ => (⟨#[]⟩, false)
def put (room : Nat) (l : PL) (key : ByteArray) (v : Int) : PL × Bool :=
  if has l key = true then (del l key ++ [(key, v)], true) else if l.length < room then (l ++ [(key, v)], true) else (l, false)
def get (l : PL) (key : ByteArray) : PL := if has l key = true then del l key ++ [(key, getv l key)] else l

theorem has_iff {l : PL} {key : ByteArray} : has l key = true ↔ ∃ e ∈ l, e.1 = key := by simp [has]
theorem has_false {l : PL} {key : ByteArray} : has l key = false ↔ ∀ e ∈ l, ¬ e.1 = key := by simp [has]
theorem del_none {l : PL} {key : ByteArray} (h : has l key = false) : del l key = l := by
  unfold del
  rw [List.filter_eq_self]
  intro e he
  simp [has_false.1 h e he]
theorem getv_none {l : PL} {key : ByteArray} (h : has l key = false) : getv l key = 0 := by
  have : l.find? (fun e => decide (e.1 = key)) = none := by
    rw [List.find?_eq_none]
    intro e he
    simp [has_false.1 h e he]
  simp [getv, this]
theorem has_split {a b : PL} {key : ByteArray} {v : Int} : has (a ++ (key, v) :: b) key = true := by simp [has]
theorem getv_split {a b : PL} {key : ByteArray} {v : Int} (h : ∀ e ∈ a, ¬ e.1 = key) : getv (a ++ (key, v) :: b) key = v := by
  have : a.find? (fun e => decide (e.1 = key)) = none := by
    rw [List.find?_eq_none]
    intro e he
    simp [h e he]
  simp [getv, List.find?_append, this]
theorem del_split {a b : PL} {key : ByteArray} {v : Int} (h : ∀ e ∈ a, ¬ e.1 = key) (h2 : ∀ e ∈ b, ¬ e.1 = key) : del (a ++ (key, v) :: b) key = a ++ b := by
  unfold del
  rw [List.filter_append, List.filter_cons_of_neg (by simp)]
  congr 1 <;> rw [List.filter_eq_self]
  · intro e he; simp [h e he]
  · intro e he; simp [h2 e he]
theorem nxt_none {key : ByteArray} : ∀ {l : PL}, has l key = false → nxt l key = (⟨#[]⟩, false)
  | [], _ => rfl
  | [_], _ => rfl
  | a :: b :: r, h => by
    have h1 := has_false.1 h
    rw [nxt, if_neg (h1 a (by simp))]
    exact nxt_none (has_false.2 (fun e he => h1 e (List.mem_cons_of_mem _ he)))
theorem nxt_split {key : ByteArray} {v : Int} {b : PL} : ∀ {a : PL}, (∀ e ∈ a, ¬ e.1 = key) → nxt (a ++ (key, v) :: b) key = match b with | [] => (⟨#[]⟩, false) | e :: _ => (e.1, true)
  | [], _ => by cases b with
    | nil => rfl
    | cons e b => simp [nxt]
  | [x], h => by
    have := nxt_split (key := key) (v := v) (b := b) (a := []) (by simp)
    rw [List.cons_append, List.nil_append, nxt, if_neg (h x (by simp))]
    exact this
  | x :: y :: a, h => by
    have := nxt_split (key := key) (v := v) (b := b) (a := y :: a) (fun e he => h e (List.mem_cons_of_mem _ he))
    rw [List.cons_append, List.cons_append, nxt, if_neg (h x (by simp))]
    exact this

/-- a table's block -/
structure Tbl (w : World) (own : List Nat) (t room : Nat) (l : PL) : Prop where
  ex : ∃ L S ids, At w L S ∧ Good S ids ∧ Small S ∧ pairs S ids = l ∧ S.room = room ∧ own = t :: L.own ∧ w.heap[t]? = some (.cells #[.pointer (some ⟨L.ob, 0, none⟩)] 63 (0, 0)) ∧ t ∉ L.own

theorem Good.len {S : Sm} {ids : List Nat} (g : Good S ids) : ids.length = S.n := by
  have h1 : ids.length ≤ S.n := by
    have := pigeon S.n ids.length (fun p => ids.getD p 1) (fun p hp => by
      have : ids[p] ∈ ids := List.getElem_mem hp
      have h2 := (g.mem _).1 this
      simp only [List.getD_eq_getElem?_getD, List.getElem?_eq_getElem hp, Option.getD_some]
      omega) (fun p q hp hq he => by
      simp only [List.getD_eq_getElem?_getD, List.getElem?_eq_getElem hp, List.getElem?_eq_getElem hq, Option.getD_some] at he
      have hpw := List.pairwise_iff_getElem.1 g.nd
      rcases Nat.lt_trichotomy p q with h | h | h
      · exact absurd he (hpw p q hp hq h)
      · exact h
      · exact absurd he.symm (hpw q p hq hp h))
    exact this
  have h2 : S.n ≤ ids.length := by
    have hex : ∀ p, p < S.n → ∃ q, q < ids.length ∧ ids[q]? = some (p + 1) := fun p hp => by
      have : p + 1 ∈ ids := (g.mem _).2 ⟨by omega, by omega⟩
      obtain ⟨q, hq, he⟩ := List.getElem_of_mem this
      exact ⟨q, hq, by rw [List.getElem?_eq_getElem hq, he]⟩
    have hf : ∃ f : Nat → Nat, ∀ p, p < S.n → f p < ids.length ∧ ids[f p]? = some (p + 1) := by
      refine ⟨fun p => if h : p < S.n then (hex p h).choose else 0, fun p hp => ?_⟩
      simp only [hp, dite_true]
      exact (hex p hp).choose_spec
    obtain ⟨f, hf⟩ := hf
    have := pigeon ids.length S.n (fun p => f p + 1) (fun p hp => ⟨by omega, by have := (hf p hp).1; omega⟩) (fun p q hp hq he => by
      have h1 := (hf p hp).2
      have h2 := (hf q hq).2
      rw [show f p = f q by omega, h2] at h1
      injection h1 with h1
      omega)
    exact this
  omega

theorem Good.split {S : Sm} {ids : List Nat} (g : Good S ids) {key : ByteArray} {i : Nat} (hi : Num S key i) (hz : i ≠ 0) :
    ∃ l1 l2, ids = l1 ++ i :: l2 ∧ pairs S ids = pairs S l1 ++ (key, S.val i) :: pairs S l2 ∧ (∀ e ∈ pairs S l1, ¬ e.1 = key) ∧ (∀ e ∈ pairs S l2, ¬ e.1 = key) := by
  have h : 1 ≤ i ∧ i ≤ S.n ∧ S.key i = key := hi.elim id (fun h => absurd h.1 hz)
  obtain ⟨l1, l2, rfl⟩ := List.append_of_mem ((g.mem i).2 ⟨h.1, h.2.1⟩)
  have hni : i ∉ l1 ++ l2 := fun hc => by
    have hp : (l1 ++ i :: l2).Perm (i :: (l1 ++ l2)) := List.perm_middle
    exact (List.nodup_cons.1 (hp.nodup_iff.1 g.nd)).1 hc
  have other : ∀ j, j ∈ l1 ++ l2 → ¬ S.key j = key := fun j hj he => by
    have hm := (g.mem j).1 (by simp only [List.mem_append, List.mem_cons] at hj ⊢; exact hj.elim .inl (fun h => .inr (.inr h)))
    have := g.keys j i hm.1 hm.2 h.1 h.2.1 (by rw [he, h.2.2])
    exact hni (this ▸ hj)
  refine ⟨l1, l2, rfl, ?_, ?_, ?_⟩
  · unfold pairs
    rw [List.map_append, List.map_cons, h.2.2]
  · intro e he
    obtain ⟨j, hj, rfl⟩ := List.mem_map.1 he
    exact other j (List.mem_append_left _ hj)
  · intro e he
    obtain ⟨j, hj, rfl⟩ := List.mem_map.1 he
    exact other j (List.mem_append_right _ hj)
theorem Good.none_ {S : Sm} {ids : List Nat} (g : Good S ids) {key : ByteArray} (hi : Num S key 0) : has (pairs S ids) key = false := by
  rw [has_false]
  intro e he
  obtain ⟨j, hj, rfl⟩ := List.mem_map.1 he
  have hm := (g.mem j).1 hj
  exact hi.elim (fun h => by omega) (fun h => h.2 j hm.1 hm.2)
theorem Good.val_ {S : Sm} {ids : List Nat} (g : Good S ids) {key : ByteArray} {i : Nat} (hi : Num S key i) : S.val i = getv (pairs S ids) key ∧ decide (i ≠ 0) = has (pairs S ids) key := by
  by_cases hz : i = 0
  · subst hz
    rw [getv_none (g.none_ hi), g.none_ hi, g.val0]
    exact ⟨rfl, rfl⟩
  · obtain ⟨l1, l2, _, h2, h3, h4⟩ := g.split hi hz
    rw [h2, getv_split h3, has_split]
    exact ⟨rfl, decide_eq_true hz⟩
theorem pairs_same {S S' : Sm} (h1 : S'.key = S.key) (h2 : S'.val = S.val) (ids : List Nat) : pairs S' ids = pairs S ids := by unfold pairs; rw [h1, h2]
theorem pairs_append (S : Sm) (a b : List Nat) : pairs S (a ++ b) = pairs S a ++ pairs S b := by simp [pairs]

theorem add_full {w : World} {L : Lay} {S : Sm} (h : At w L S) (key : ByteArray) (v : Int) (hroom : ¬ S.n < S.room) :
    Calls Try.prog 43 #[.pointer (some ⟨L.ob, 0, none⟩), .string key, .int .i64 v] w fun e w' => e = .returned (.bool false) ∧ At w' L S ∧ Only L.own w w' := by
  have H := Lib.hid h
  have c1 := h.roomc
  have t1 : decide ((S.room : Int) ≤ (S.n : Int)) = true := decide_eq_true (by omega)
  have t2 : (S.room : Int) ≤ (S.n : Int) := by omega
  clear h hroom
  go_enter Try.func43, Try.ntmps43
  go_wp2_with fail
  go_quiet ((go_at_call 35; refine Calls.quiet_of_same ((count_calls (H.out.drewN _)).mono fun _ _ h => ⟨h.1, h.2.symm⟩)))
  go_wp2_with fail
  go_ret
  exact ⟨rfl, H.out.drewN nq, (Only.refl _ _).drewN nq⟩

set_option maxHeartbeats 1000000 in
theorem put_calls {w : World} {L : Lay} {S : Sm} {ids : List Nat} (h : At w L S) (g : Good S ids) (hsm : Small S) (key : ByteArray) (hk : key.size ≤ maxLen) (v : Int) :
    Calls Try.prog 37 #[.pointer (some ⟨L.ob, 0, none⟩), .string key, .int .i64 v] w fun e w' => e = .returned (.bool (put S.room (pairs S ids) key v).2) ∧
      ∃ L' S' ids', At w' L' S' ∧ Good S' ids' ∧ Small S' ∧ pairs S' ids' = (put S.room (pairs S ids) key v).1 ∧ S'.room = S.room ∧ L'.ob = L.ob ∧ Only L.own w w' ∧ (∀ x ∈ L'.own, x ∈ L.own ∨ w.heap.size ≤ x) := by
  obtain ⟨i, hi⟩ := num_exists S key
  have hil := hi.le
  have nn := h.nn
  by_cases hz : i = 0
  · subst hz
    have hh := g.none_ hi
    have hnot : ∀ j, 1 ≤ j → j ≤ S.n → S.key j ≠ key := hi.elim (fun h => by omega) (fun h => h.2)
    have hlen : (pairs S ids).length = S.n := by unfold pairs; rw [List.length_map, g.len]
    have H := Lib.hid h
    have G := Lib.hid g
    have HI := Lib.hid hi
    have HS := Lib.hid hsm
    have HN := Lib.hid hnot
    have HH := Lib.hid hh
    have HL := Lib.hid hlen
    by_cases hr : S.n < S.room
    · have HR := Lib.hid hr
      clear h g hsm hi hh hnot hlen hr
      go_enter Try.func37, Try.ntmps37
      go_wp2_with fail
      refine (number_calls H.out G.out key hk HI.out).mono ?_
      rintro e w1 ⟨rfl, hb⟩
      have A1 := Lib.hid (H.out.below hb)
      have O1 : Hid (Only L.own w w1) := Lib.hid (Only.of_below _ hb)
      clear hb
      go_wp2_with fail
      refine (add_calls A1.out G.out HS.out key hk v HN.out HR.out).mono ?_
      rintro e w2 ⟨rfl, L', S', a2, g2, p2, s2, r2, b2, o2, n2⟩
      have Z : Hid (True ∧ ∃ L' S' ids', At w2 L' S' ∧ Good S' ids' ∧ Small S' ∧ pairs S' ids' = (put S.room (pairs S ids) key v).1 ∧ S'.room = S.room ∧ L'.ob = L.ob ∧ Only L.own w w2 ∧ (∀ x ∈ L'.own, x ∈ L.own ∨ w.heap.size ≤ x)) :=
        Lib.hid ⟨trivial, L', S', _, a2, g2, s2, by rw [p2]; unfold put; rw [HH.out, if_neg (by simp), HL.out, if_pos HR.out], r2, b2, O1.out.also o2, fun x hx => (n2 x hx).elim .inl (fun h => .inr (Nat.le_trans O1.out.size h))⟩
      clear a2 g2 p2 s2 r2 b2 o2 n2 A1 O1
      go_wp2_with fail
      go_ret
      exact ⟨by unfold put; rw [HH.out, if_neg (by simp), HL.out, if_pos HR.out]; rfl, Z.out.2⟩
    · have HR := Lib.hid hr
      clear h g hsm hi hh hnot hlen hr
      go_enter Try.func37, Try.ntmps37
      go_wp2_with fail
      refine (number_calls H.out G.out key hk HI.out).mono ?_
      rintro e w1 ⟨rfl, hb⟩
      have A1 := Lib.hid (H.out.below hb)
      have O1 : Hid (Only L.own w w1) := Lib.hid (Only.of_below _ hb)
      clear hb
      go_wp2_with fail
      refine (add_full A1.out key v HR.out).mono ?_
      rintro e w2 ⟨rfl, a2, o2⟩
      have A2 := Lib.hid a2
      have O2 := Lib.hid (O1.out.also o2)
      clear a2 o2
      go_wp2_with fail
      go_ret
      have e1 : put S.room (pairs S ids) key v = (pairs S ids, false) := by unfold put; rw [HH.out, if_neg (by simp), HL.out, if_neg HR.out]
      rw [e1]
      exact ⟨rfl, L, S, ids, A2.out, G.out, HS.out, rfl, rfl, rfl, O2.out, fun x hx => .inl hx⟩
  · obtain ⟨l1, l2, hids, hp, hp1, hp2⟩ := g.split hi hz
    have H := Lib.hid h
    have G := Lib.hid g
    have HI := Lib.hid hi
    have HS := Lib.hid hsm
    have t1 : ((i : Int) == 0) = false := beq_eq_false_iff_ne.2 (by omega)
    have HZ := Lib.hid hz
    have HP := Lib.hid (And.intro hids (And.intro hp (And.intro hp1 hp2)))
    clear h g hsm hi hz hids hp hp1 hp2
    go_enter Try.func37, Try.ntmps37
    go_wp2_with fail
    refine (number_calls H.out G.out key hk HI.out).mono ?_
    rintro e w1 ⟨rfl, hb⟩
    have A1 := Lib.hid (H.out.below hb)
    have O1 : Hid (Only L.own w w1) := Lib.hid (Only.of_below _ hb)
    have c1 := (H.out.below hb).entc
    have c2 := (H.out.below hb).val hil
    have cf := (H.out.below hb).efree (i * 5 + 2)
    have A2 := Lib.hid ((H.out.below hb).setVal hil v)
    have O2 := Lib.hid (O1.out.set (p := ⟨L.eb, i * 5 + 2, none⟩) (by simp) (.int .i64 v))
    clear hb
    go_wp2_with fail
    clear c1 c2 cf
    refine (renew_calls A2.out (i := i) hil (G.out.setVal HZ.out v).bnd).mono ?_
    rintro e w3 ⟨rfl, a3, o3⟩
    have A3 := Lib.hid a3
    have O3 := Lib.hid (O2.out.also o3)
    clear a3 o3
    go_wp2_with fail
    go_ret
    obtain ⟨hids, hp, hp1, hp2⟩ := HP.out
    have e1 : put S.room (pairs S ids) key v = (pairs S l1 ++ pairs S l2 ++ [(key, v)], true) := by unfold put; rw [hp, if_pos has_split, del_split hp1 hp2]
    rw [e1]
    have g2 := G.out.setVal HZ.out v
    rw [hids] at g2
    refine ⟨rfl, L, (S.setVal i v).renew i, l1 ++ l2 ++ [i], A3.out, g2.renew, HS.out, ?_, rfl, rfl, O3.out, fun x hx => .inl hx⟩
    have hki : S.key i = key := HI.out.elim (fun h => h.2.2) (fun h => absurd h.1 HZ.out)
    have hni : i ∉ l1 ++ l2 := fun hc => by
      have hpm : (l1 ++ i :: l2).Perm (i :: (l1 ++ l2)) := List.perm_middle
      have hnd := G.out.nd
      rw [hids] at hnd
      exact (List.nodup_cons.1 (hpm.nodup_iff.1 hnd)).1 hc
    have e2 : ∀ k, (∀ j ∈ k, j ≠ i) → pairs ((S.setVal i v).renew i) k = pairs S k := fun k hk => by
      unfold pairs
      refine List.map_congr_left fun j hj => ?_
      show (S.key j, upd S.val i v j) = _
      rw [upd_ne _ _ (hk j hj)]
    rw [pairs_append, pairs_append, e2 l1 (fun j hj e => hni (by simp [← e, hj])), e2 l2 (fun j hj e => hni (by simp [← e, hj]))]
    congr 1
    show [(S.key i, upd S.val i v i)] = _
    rw [upd_same, hki]

end Go.Proofs.Ytdnaecmihgcelaa.Tb
