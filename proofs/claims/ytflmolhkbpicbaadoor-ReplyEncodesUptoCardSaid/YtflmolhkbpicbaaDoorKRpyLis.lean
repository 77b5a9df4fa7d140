/-
  Texts behind their number: reply.list.
-/
import Derived.Test.YtflmolhkbpicbaaDoorKRpyBlk
namespace Go.Proofs.YtflmolhkbpicbaaDoor
open Go.RowKit
namespace Ry
variable {w w' : World} {pb : Nat} {s : ByteArray} {e : Int}

set_option maxRecDepth 100000 in
theorem row_ty {w : World} {B n k : Nat} {T : TypeId} {v : Value} {xs : List Value} (h : w.ownsRow B T 1 v n xs) (e : v.ownBlock = some k) : ∃ cur, w.heap[k]? = some (.cells cur T (0, 0)) := by
  rcases h.2 with ⟨rfl, _⟩ | ⟨g, cap, cur, rfl, _, hb, _⟩
  · simp [Value.ownBlock] at e
  · simp only [Value.ownBlock, Option.some.injEq] at e
    subst e
    exact ⟨cur, hb⟩
set_option maxRecDepth 100000 in
theorem row_only {w w' : World} {own : List Nat} {B n : Nat} {T : TypeId} {v : Value} {xs : List Value} (h : w.ownsRow B T 1 v n xs) (k : Only own w w') (hn : ∀ x ∈ own, v.ownBlock ≠ some x) : w'.ownsRow B T 1 v n xs := by
  refine ⟨h.1, ?_⟩
  rcases h.2 with h2 | ⟨g, cap, cur, rfl, hB, hg, r⟩
  · exact .inl h2
  · refine .inr ⟨g, cap, cur, rfl, hB, ?_, r⟩
    rw [k.block g (Array.getElem?_eq_some_iff.1 hg).1 (fun hc => hn g hc rfl)]; exact hg
set_option maxRecDepth 100000 in
theorem row_box {w : World} {B n b : Nat} {T T' : TypeId} {v : Value} {xs : List Value} {cs : Array Value} (h : w.ownsRow B T 1 v n xs) (hb : Box w b T' cs) (ht : T ≠ T') : v.ownBlock ≠ some b := fun e => by
  obtain ⟨cur, hk⟩ := row_ty h e
  rw [show w.heap[b]? = _ from hb] at hk
  injection hk with hk
  injection hk with _ hk _
  exact ht hk.symm
set_option maxRecDepth 100000 in
theorem row_cap {w : World} {B cap n : Nat} {A : Option Addr} {ps : List ByteArray} (h : SRow w B (.slice A n cap) ps) : n = ps.length ∧ ps.length ≤ cap ∧ (A = none → cap = 0) := by
  rcases h.2 with ⟨e, h0⟩ | ⟨g, c, cur, e, _, _, h1, _⟩
  · injection e with e1 e2 e3
    subst e1 e2 e3
    exact ⟨h0.symm, by omega, fun _ => rfl⟩
  · injection e with e1 e2 e3
    subst e1 e2 e3
    exact ⟨rfl, h1, fun q => by cases q⟩
set_option maxRecDepth 100000 in
theorem row_base {w : World} {B cap n : Nat} {A : Option Addr} {ps : List ByteArray} (h : SRow w B (.slice A n cap) ps) : ∀ a, A = some a → B ≤ a.block := by
  intro a q
  rcases h.2 with ⟨e, _⟩ | ⟨g, c, cur, e, hB, _⟩
  · injection e with e1 _ _
    rw [e1] at q; cases q
  · injection e with e1 _ _
    rw [e1] at q
    injection q with q
    rw [← q]; exact hB
set_option maxRecDepth 100000 in
theorem box_grown {w w' : World} {row : Option Nat} {b : Nat} {t : TypeId} {cs : Array Value} (h : Box w b t cs) (hg : w.grownBy w' row) (hn : row ≠ some b) : Box w' b t cs := by
  unfold Box at *
  rw [hg.block b (Array.getElem?_eq_some_iff.1 h).1 (fun q => hn q.symm)]; exact h
set_option maxRecDepth 100000 in
/-- behind an error nothing turns the error -/
theorem number_after (h : Rs w pb s e) (hs : s.size ≤ 65000) (hT : Tb w) (he : e ≠ 0) :
    Calls Tryd.prog 58 #[.pointer (some ⟨pb, 0, none⟩), .int .i64 0, .int .i64 1099511627776] w fun x w' => (∃ (m : Nat) (s' : ByteArray), x = .returned (.int .i64 m) ∧ m ≤ 1099511627776 ∧ Rs w' pb s' e ∧ s'.size ≤ 65000) ∧ Only [pb] w w' := by
  refine (number_own h hs hT 0 1099511627776).mono ?_
  rintro x w' ⟨h1, hk⟩
  refine ⟨?_, hk⟩
  cases hR : numR 0 1099511627776 s.data.toList with
  | ok n r =>
    rw [hR] at h1
    obtain ⟨_, h2, h3, _, _⟩ := num_ok hR
    refine ⟨n.toNat, bat r, by rw [h1.1]; congr 2; omega, by omega, h1.2, ?_⟩
    rw [bat_size]; have := num_rest hR; rw [← Lib.size_eq] at this; omega
  | err k =>
    rw [hR] at h1
    have := h1.2
    rw [fl_no he] at this
    exact ⟨0, s, h1.1, by omega, this, hs⟩

/-- the loop's state -/
def Lst (R0 : Rd (List Bytes)) (w wr : World) (pb c : Nat) (v : Value) (g : Nat) : Prop :=
  ∃ ps : List Bytes, SRow wr w.heap.size v (ps.map bat) ∧ Box wr w.heap.size 25 z4 ∧ Only [pb] w wr ∧
    ((∃ u, Rs wr pb (bat u) 0 ∧ ps.length + u.length ≤ 65000 ∧ ps.length ≤ c ∧ g = c - ps.length + 1 ∧ listR (c - ps.length) ps u = R0) ∨
     (∃ (k : Nat) (s' : ByteArray), Rs wr pb s' k ∧ k ≠ 0 ∧ ps.length ≤ 65001 ∧ g = 0 ∧ R0 = .err k))
set_option maxRecDepth 100000 in
theorem sign_err {s : Bytes} {k : Nat} (h : signR s = .err k) : k = 8 ∨ k = 9 := by
  unfold signR at h
  split at h
  · injection h with h; omega
  · split at h
    · cases h
    · injection h with h; omega
set_option maxRecDepth 100000 in
theorem lis_step (n : Nat) (ps : List Bytes) (u : Bytes) : listR (n + 1) ps u = match signR u with
  | .err k => .err k
  | .ok _ r => match numR 0 1099511627776 r with
    | .err k => .err k
    | .ok m v => match bytesR m.toNat v with
      | .err k => .err k
      | .ok t v2 => listR n (ps ++ [t]) v2 := by
  cases u with
  | nil => rfl
  | cons c r =>
    by_cases h : c = 36
    · subst h
      simp only [listR, signR, ne_eq, not_true_eq_false, if_false, if_true]
      cases numR 0 1099511627776 r with
      | err k => rfl
      | ok m v => rfl
    · simp only [listR, signR, ne_eq, h, not_false_eq_true, if_true, if_false]

set_option maxRecDepth 100000 in
set_option maxHeartbeats 8000000 in
theorem list_own (h : Rs w pb s 0) (hs : s.size ≤ 65000) (hT : Tb w) (hp3 : ∀ x ∈ [pb], 3 ≤ x) :
    Calls Tryd.prog 60 #[.pointer (some ⟨pb, 0, none⟩)] w fun x w' => SgOut x w' pb w.heap.size (match numR 0 1099511627776 s.data.toList with
      | .err e => .err e
      | .ok n u => mapR (fun l => ⟨6, [], 0, l⟩) (listR n.toNat [] u)) ∧ Only [pb] w w' := by
  have hb : Below w.heap.size w (w.alloc (.cells z4 25)) := (Below.refl _ w).alloc (Nat.le_refl _) _
  have HLN := Lib.hid (number_own (h.keep hb) hs (hT.keep hb) 0 1099511627776)
  have HK := Lib.hid (only_below hb [pb])
  have hlt := h.lt
  have hne : w.heap.size ∉ [pb] := by simp; omega
  have hpn : pb ∉ [w.heap.size] := by simp; omega
  have hin : ∀ x ∈ [w.heap.size], x ∈ [pb] ∨ w.heap.size ≤ x := fun x hx => Or.inr (by simp at hx; omega)
  have HX := Lib.hid (Box.new w 25 z4)
  have HT := Lib.hid hT
  clear h hT hb
  cases hR : numR 0 1099511627776 s.data.toList with
  | err k =>
    have hk0 : (k : Int) ≠ 0 := by have := nbr_err hR; omega
    have HK0 := Lib.hid hk0
    rw [hR] at HLN
    clear hR hk0
    go_enter Tryd.func60, Tryd.ntmps60
    go_wp2_with fail
    refine HLN.out.mono ?_
    rintro x w1 ⟨⟨rfl, h1⟩, hk1⟩
    have HB := Lib.hid (box_only HX.out hk1 hne)
    have H1 := Lib.hid h1
    have HK1 := Lib.hid (HK.out.also hk1)
    clear h1 hk1
    have d1 := H1.out.c1
    go_wp2
    go_loop [4] (fun v => v = .slice none 0 0) (fun _ => 0)
    case atStart => rfl
    case round =>
      subst hrel
      go_wp2_with (refine wpList_store_only rfl 25 _ _ rfl w.heap.size _ rfl rfl _ HB.out r_size rfl (by simp [Value.oneCell']) ?_)
      intro w9 p9 k9
      have P9 := Lib.hid p9
      have H9 := Lib.hid (H1.out.only k9 hpn)
      have HK9 := Lib.hid (HK1.out.trans k9 hin)
      clear p9 k9
      go_wp2_with fail
      refine ret_r1 Tryd.results60 rfl rfl P9.out ?_
      exact ⟨⟨⟨6, [], 0, []⟩, none, 0, rfl, by intro q; exact HK0.out (by exact_mod_cast q), _, H9.out⟩, HK9.out⟩
  | ok n u0 =>
    obtain ⟨_, hn1, hn2, _, _⟩ := num_ok hR
    have hul := num_rest hR
    rw [← Lib.size_eq] at hul
    rw [hR] at HLN
    clear hR
    obtain ⟨c, rfl⟩ : ∃ c : Nat, n = c := ⟨n.toNat, by omega⟩
    simp only [Int.toNat_natCast]
    obtain ⟨R0, hR0⟩ : ∃ R0, listR c [] u0 = R0 := ⟨_, rfl⟩
    rw [hR0]
    go_enter Tryd.func60, Tryd.ntmps60
    go_wp2_with fail
    refine HLN.out.mono ?_
    rintro x w1 ⟨⟨rfl, h1⟩, hk1⟩
    have HB := Lib.hid (box_only HX.out hk1 hne)
    have H1 := Lib.hid h1
    have HK1 := Lib.hid (HK.out.also hk1)
    clear h1 hk1 HX HLN HK
    go_wp2
    go_loopg [4] (c + 1) (fun g v wr => ∃ v', v = v' ∧ Lst R0 w wr pb c v' g)
    case atStart => exact ⟨_, rfl, [], SRow.nil _ _, HB.out, HK1.out, .inl ⟨u0, H1.out, by simp; omega, Nat.zero_le _, by simp, by simpa using hR0⟩⟩
    case round =>
      obtain ⟨v, rfl, ps, hrow, hbox, honly, hst⟩ := hrel
      clear HB H1 HK1 hR0
      obtain ⟨A, n0, cp, rfl, hn0⟩ := hrow.form
      rw [List.length_map] at hn0
      subst hn0
      have HR := Lib.hid hrow
      have HX := Lib.hid hbox
      have HK := Lib.hid honly
      clear hrow hbox honly
      rcases hst with ⟨u, hz, hlen, hle, hg, hlist⟩ | ⟨k, s', hz, hk0, hlen, hg, rfl⟩
      · have HZ := Lib.hid hz
        clear hz
        have d1 := HZ.out.c1
        have hrp : ∀ x ∈ [pb], (Value.slice A ps.length cp).ownBlock ≠ some x := fun x hx => by
          rw [List.mem_singleton] at hx; subst hx
          exact row_box HR.out HZ.out (by decide)
        by_cases hc : ps.length < c
        · have hci : (ps.length : Int) < (c : Int) := by omega
          obtain ⟨q, hq⟩ : ∃ q, c - ps.length = q + 1 := ⟨c - ps.length - 1, by omega⟩
          rw [hq, lis_step] at hlist
          have hub : (bat u).size ≤ 65000 := by rw [bat_size]; omega
          have HSG := Lib.hid (sign_own HZ.out hub)
          rw [show (bat u).data.toList = u from rfl] at HSG
          cases hsg : signR u with
          | err k =>
            have hk0 := sign_err hsg
            have HK0 := Lib.hid (show (k : Int) ≠ 0 by omega)
            have HKN := Lib.hid (show k ≠ 0 by omega)
            rw [hsg] at HSG hlist
            have HN := Lib.hid hlist
            clear hlist hk0 hsg
            go_wp2_with fail
            refine HSG.out.mono ?_
            rintro x w1 ⟨rfl, h1, hk1⟩
            have X1 := Lib.hid (box_only HX.out hk1 hne)
            have S1 := Lib.hid (row_only HR.out hk1 hrp)
            have K1 := Lib.hid (HK.out.also hk1)
            have T1 := Lib.hid (HT.out.only K1.out hp3)
            have Z1 := Lib.hid (show Rs w1 pb (bat u) (k : Nat) from h1)
            clear h1 hk1
            go_wp2_with fail
            refine (number_after Z1.out hub T1.out HK0.out).mono ?_
            rintro x w2 ⟨⟨m, s2, rfl, hm, h2, hs2⟩, hk2⟩
            have X2 := Lib.hid (box_only X1.out hk2 hne)
            have S2 := Lib.hid (row_only S1.out hk2 hrp)
            have K2 := Lib.hid (K1.out.also hk2)
            have Z2 := Lib.hid h2
            clear h2 hk2
            go_wp2_with fail
            refine (bytes_after Z2.out hs2 HK0.out m hm).mono ?_
            rintro x w3 ⟨⟨t, s3, rfl, h3⟩, hk3⟩
            have X3 := Lib.hid (box_only X2.out hk3 hne)
            have S3 := Lib.hid (row_only S2.out hk3 hrp)
            have K3 := Lib.hid (K2.out.also hk3)
            have Z3 := Lib.hid h3
            clear h3 hk3
            go_wp2_with (at_builtin; refine wpList_append_str rfl _ _ rfl w.heap.size _ (ps.map bat) rfl (SRow.alloc S3.out _) w3.heap.size (bat t) rfl (heap_alloc_new _ _) (by rw [List.length_map]; omega) ?c5 ?_)
            case c5 => have := K3.out.size; simp; omega
            intro v4 w4 ho4 hg4
            have X4 := Lib.hid (box_grown (X3.out.alloc _) hg4 (row_box HR.out HX.out (by decide)))
            have Z4 := Lib.hid (box_grown (Box.alloc Z3.out _) hg4 (row_box HR.out HZ.out (by decide)))
            have K4 := Lib.hid ((K3.out.alloc _).grown hg4 (fun k hk => Or.inr ((World.ownsRow.lt HR.out k hk).1)))
            have O4 := Lib.hid ho4
            clear ho4 hg4
            obtain ⟨A4, n4, c4, rfl, hn4⟩ := O4.out.form
            go_wp2
            go_roundg 0
            case measure => omega
            case rel => exact ⟨_, rfl, ps ++ [t], by rw [List.map_append]; exact O4.out, X4.out, K4.out, .inr ⟨k, _, Z4.out, HKN.out, by rw [List.length_append]; simp; omega, rfl, HN.out.symm⟩⟩
          | ok _ r =>
            rw [hsg] at HSG hlist
            have hru : r.length < u.length := by
              unfold signR at hsg
              split at hsg
              · cases hsg
              · split at hsg
                · injection hsg with _ e; subst e; simp
                · cases hsg
            have hrb : (bat r).size ≤ 65000 := by rw [bat_size]; omega
            clear hsg
            simp only at hlist
            cases hnr : numR 0 1099511627776 r with
            | err k =>
              have hk0 := nbr_err hnr
              have HK0 := Lib.hid (show (k : Int) ≠ 0 by omega)
              have HKN := Lib.hid (show k ≠ 0 by omega)
              rw [hnr] at hlist
              have HNR := Lib.hid (show numR 0 1099511627776 (bat r).data.toList = .err k from hnr)
              have HN := Lib.hid hlist
              clear hlist hk0 hnr
              go_wp2_with fail
              refine HSG.out.mono ?_
              rintro x w1 ⟨rfl, h1, hk1⟩
              have X1 := Lib.hid (box_only HX.out hk1 hne)
              have S1 := Lib.hid (row_only HR.out hk1 hrp)
              have K1 := Lib.hid (HK.out.also hk1)
              have T1 := Lib.hid (HT.out.only K1.out hp3)
              have Z1 := Lib.hid (show Rs w1 pb (bat r) 0 from h1)
              clear h1 hk1
              go_wp2_with fail
              refine (number_own Z1.out hrb T1.out 0 1099511627776).mono ?_
              rw [HNR.out]
              rintro x w2 ⟨⟨rfl, h2⟩, hk2⟩
              have X2 := Lib.hid (box_only X1.out hk2 hne)
              have S2 := Lib.hid (row_only S1.out hk2 hrp)
              have K2 := Lib.hid (K1.out.also hk2)
              have Z2 := Lib.hid (show Rs w2 pb (bat r) (k : Nat) from h2)
              clear h2 hk2
              go_wp2_with fail
              refine (bytes_after Z2.out hrb HK0.out 0 (by omega)).mono ?_
              rintro x w3 ⟨⟨t, s3, rfl, h3⟩, hk3⟩
              have X3 := Lib.hid (box_only X2.out hk3 hne)
              have S3 := Lib.hid (row_only S2.out hk3 hrp)
              have K3 := Lib.hid (K2.out.also hk3)
              have Z3 := Lib.hid h3
              clear h3 hk3
              go_wp2_with (at_builtin; refine wpList_append_str rfl _ _ rfl w.heap.size _ (ps.map bat) rfl (SRow.alloc S3.out _) w3.heap.size (bat t) rfl (heap_alloc_new _ _) (by rw [List.length_map]; omega) ?c5 ?_)
              case c5 => have := K3.out.size; simp; omega
              intro v4 w4 ho4 hg4
              have X4 := Lib.hid (box_grown (X3.out.alloc _) hg4 (row_box HR.out HX.out (by decide)))
              have Z4 := Lib.hid (box_grown (Box.alloc Z3.out _) hg4 (row_box HR.out HZ.out (by decide)))
              have K4 := Lib.hid ((K3.out.alloc _).grown hg4 (fun k hk => Or.inr ((World.ownsRow.lt HR.out k hk).1)))
              have O4 := Lib.hid ho4
              clear ho4 hg4
              obtain ⟨A4, n4, c4, rfl, hn4⟩ := O4.out.form
              go_wp2
              go_roundg 0
              case measure => omega
              case rel => exact ⟨_, rfl, ps ++ [t], by rw [List.map_append]; exact O4.out, X4.out, K4.out, .inr ⟨k, _, Z4.out, HKN.out, by rw [List.length_append]; simp; omega, rfl, HN.out.symm⟩⟩
            | ok n v2 =>
              obtain ⟨_, hm1, hm2, _, _⟩ := num_ok hnr
              have hvr := num_rest hnr
              obtain ⟨m, rfl⟩ : ∃ m : Nat, n = m := ⟨n.toNat, by omega⟩
              have hm : m ≤ 1099511627776 := by omega
              have hvb : (bat v2).size ≤ 65000 := by rw [bat_size]; omega
              rw [hnr] at hlist
              simp only [Int.toNat_natCast] at hlist
              have HNR := Lib.hid (show numR 0 1099511627776 (bat r).data.toList = .ok m v2 from hnr)
              clear hnr
              cases hbr : bytesR m v2 with
              | err k =>
                have hk0 := byt_err hbr
                have HKN := Lib.hid (show k ≠ 0 by omega)
                rw [hbr] at hlist
                have HBR := Lib.hid (show bytesR m (bat v2).data.toList = .err k from hbr)
                have HN := Lib.hid hlist
                clear hlist hk0 hbr
                go_wp2_with fail
                refine HSG.out.mono ?_
                rintro x w1 ⟨rfl, h1, hk1⟩
                have X1 := Lib.hid (box_only HX.out hk1 hne)
                have S1 := Lib.hid (row_only HR.out hk1 hrp)
                have K1 := Lib.hid (HK.out.also hk1)
                have T1 := Lib.hid (HT.out.only K1.out hp3)
                have Z1 := Lib.hid (show Rs w1 pb (bat r) 0 from h1)
                clear h1 hk1
                go_wp2_with fail
                refine (number_own Z1.out hrb T1.out 0 1099511627776).mono ?_
                rw [HNR.out]
                rintro x w2 ⟨⟨rfl, h2⟩, hk2⟩
                have X2 := Lib.hid (box_only X1.out hk2 hne)
                have S2 := Lib.hid (row_only S1.out hk2 hrp)
                have K2 := Lib.hid (K1.out.also hk2)
                have Z2 := Lib.hid h2
                clear h2 hk2
                go_wp2_with fail
                refine (bytes_own Z2.out hvb m hm).mono ?_
                rw [HBR.out]
                rintro x w3 ⟨⟨rfl, h3⟩, hk3⟩
                have X3 := Lib.hid (box_only X2.out hk3 hne)
                have S3 := Lib.hid (row_only S2.out hk3 hrp)
                have K3 := Lib.hid (K2.out.also hk3)
                have Z3 := Lib.hid h3
                clear h3 hk3
                go_wp2_with (at_builtin; refine wpList_append_str rfl _ _ rfl w.heap.size _ (ps.map bat) rfl (SRow.alloc S3.out _) w3.heap.size (bat []) rfl (heap_alloc_new _ _) (by rw [List.length_map]; omega) ?c5 ?_)
                case c5 => have := K3.out.size; simp; omega
                intro v4 w4 ho4 hg4
                have X4 := Lib.hid (box_grown (X3.out.alloc _) hg4 (row_box HR.out HX.out (by decide)))
                have Z4 := Lib.hid (box_grown (Box.alloc Z3.out _) hg4 (row_box HR.out HZ.out (by decide)))
                have K4 := Lib.hid ((K3.out.alloc _).grown hg4 (fun k hk => Or.inr ((World.ownsRow.lt HR.out k hk).1)))
                have O4 := Lib.hid ho4
                clear ho4 hg4
                obtain ⟨A4, n4, c4, rfl, hn4⟩ := O4.out.form
                go_wp2
                go_roundg 0
                case measure => omega
                case rel => exact ⟨_, rfl, ps ++ [[]], by rw [List.map_append]; exact O4.out, X4.out, K4.out, .inr ⟨k, _, Z4.out, HKN.out, by rw [List.length_append]; simp; omega, rfl, HN.out.symm⟩⟩
              | ok t v3 =>
                have hvl : v3.length ≤ v2.length := by rw [(bytes_ok hbr).1]; simp; omega
                rw [hbr] at hlist
                have HBR := Lib.hid (show bytesR m (bat v2).data.toList = .ok t v3 from hbr)
                have HN := Lib.hid hlist
                clear hlist hbr
                go_wp2_with fail
                refine HSG.out.mono ?_
                rintro x w1 ⟨rfl, h1, hk1⟩
                have X1 := Lib.hid (box_only HX.out hk1 hne)
                have S1 := Lib.hid (row_only HR.out hk1 hrp)
                have K1 := Lib.hid (HK.out.also hk1)
                have T1 := Lib.hid (HT.out.only K1.out hp3)
                have Z1 := Lib.hid (show Rs w1 pb (bat r) 0 from h1)
                clear h1 hk1
                go_wp2_with fail
                refine (number_own Z1.out hrb T1.out 0 1099511627776).mono ?_
                rw [HNR.out]
                rintro x w2 ⟨⟨rfl, h2⟩, hk2⟩
                have X2 := Lib.hid (box_only X1.out hk2 hne)
                have S2 := Lib.hid (row_only S1.out hk2 hrp)
                have K2 := Lib.hid (K1.out.also hk2)
                have Z2 := Lib.hid h2
                clear h2 hk2
                go_wp2_with fail
                refine (bytes_own Z2.out hvb m hm).mono ?_
                rw [HBR.out]
                rintro x w3 ⟨⟨rfl, h3⟩, hk3⟩
                have X3 := Lib.hid (box_only X2.out hk3 hne)
                have S3 := Lib.hid (row_only S2.out hk3 hrp)
                have K3 := Lib.hid (K2.out.also hk3)
                have Z3 := Lib.hid h3
                clear h3 hk3
                go_wp2_with (at_builtin; refine wpList_append_str rfl _ _ rfl w.heap.size _ (ps.map bat) rfl (SRow.alloc S3.out _) w3.heap.size (bat t) rfl (heap_alloc_new _ _) (by rw [List.length_map]; omega) ?c5 ?_)
                case c5 => have := K3.out.size; simp; omega
                intro v4 w4 ho4 hg4
                have X4 := Lib.hid (box_grown (X3.out.alloc _) hg4 (row_box HR.out HX.out (by decide)))
                have Z4 := Lib.hid (box_grown (Box.alloc Z3.out _) hg4 (row_box HR.out HZ.out (by decide)))
                have K4 := Lib.hid ((K3.out.alloc _).grown hg4 (fun k hk => Or.inr ((World.ownsRow.lt HR.out k hk).1)))
                have O4 := Lib.hid ho4
                clear ho4 hg4
                obtain ⟨A4, n4, c4, rfl, hn4⟩ := O4.out.form
                go_wp2
                go_roundg (c - ps.length)
                case measure => omega
                case rel => exact ⟨_, rfl, ps ++ [t], by rw [List.map_append]; exact O4.out, X4.out, K4.out, .inl ⟨v3, Z4.out, by rw [List.length_append]; simp; omega, by rw [List.length_append]; simp; omega, by rw [List.length_append]; simp; omega, by rw [← HN.out, List.length_append, show c - (ps.length + [t].length) = q by simp; omega]⟩⟩
        · have hci : ¬ ((ps.length : Int) < (c : Int)) := by omega
          obtain rfl : ps.length = c := by omega
          rw [Nat.sub_self] at hlist
          have hR1 : R0 = .ok ps u := by rw [← hlist]; rfl
          subst hR1
          clear hlist
          go_wp2_with (refine wpList_store_only rfl 25 _ _ rfl w.heap.size _ rfl rfl _ HX.out r_size rfl (by simp [Value.oneCell']) ?_)
          intro w9 p9 k9
          have P9 := Lib.hid p9
          have H9 := Lib.hid (HZ.out.only k9 hpn)
          have R9 := Lib.hid (row_only HR.out k9 (fun x hx => by rw [List.mem_singleton] at hx; subst hx; exact row_box HR.out HX.out (by decide)))
          have HK9 := Lib.hid (HK.out.trans k9 hin)
          clear p9 k9
          go_wp2_with fail
          refine ret_r1 Tryd.results60 rfl rfl P9.out ?_
          exact ⟨⟨⟨6, [], 0, ps⟩, A, cp, rfl, rfl, H9.out, R9.out⟩, HK9.out⟩
      · have HZ := Lib.hid hz
        clear hz
        have d1 := HZ.out.c1
        have HKN := Lib.hid hk0
        have hk1 : ((k : Int) == 0) = false := by simp; omega
        clear hk0
        by_cases hc : (ps.length : Int) < (c : Int)
        · go_wp2_with (refine wpList_store_only rfl 25 _ _ rfl w.heap.size _ rfl rfl _ HX.out r_size rfl (by simp [Value.oneCell']) ?_)
          intro w9 p9 k9
          have P9 := Lib.hid p9
          have H9 := Lib.hid (HZ.out.only k9 hpn)
          have HK9 := Lib.hid (HK.out.trans k9 hin)
          clear p9 k9
          go_wp2_with fail
          refine ret_r1 Tryd.results60 rfl rfl P9.out ?_
          exact ⟨⟨⟨6, [], 0, ps⟩, A, cp, rfl, HKN.out, _, H9.out⟩, HK9.out⟩
        · go_wp2_with (refine wpList_store_only rfl 25 _ _ rfl w.heap.size _ rfl rfl _ HX.out r_size rfl (by simp [Value.oneCell']) ?_)
          intro w9 p9 k9
          have P9 := Lib.hid p9
          have H9 := Lib.hid (HZ.out.only k9 hpn)
          have HK9 := Lib.hid (HK.out.trans k9 hin)
          clear p9 k9
          go_wp2_with fail
          refine ret_r1 Tryd.results60 rfl rfl P9.out ?_
          exact ⟨⟨⟨6, [], 0, ps⟩, A, cp, rfl, HKN.out, _, H9.out⟩, HK9.out⟩
end Ry
end Go.Proofs.YtflmolhkbpicbaaDoor
