/-
  What is left to be read: the methods fail, sign and bytes of reply.rest.
-/
import Derived.Test.YtflmolhkbpicbaaDoorKGUtf
import Derived.Test.YtflmolhkbpicbaaDoorKRpyShf
import Derived.Test.YtflmolhkbpicbaaDoorKRpyTb
import Derived.Test.YtflmolhkbpicbaaDoorKGQue
import Derived.Test.YtflmolhkbpicbaaDoorKRpyAny
import Derived.Test.YtflmolhkbpicbaaDoorKGDig
namespace Go.Proofs.YtflmolhkbpicbaaDoor
open Go.RowKit
namespace Ry

/-- what is left, and the first error -/
def Rs (w : World) (pb : Nat) (s : ByteArray) (e : Int) : Prop := Box w pb 75 #[.string s, .int .i64 e]
/-- the first error stays -/
def fl (e k : Int) : Int := if e = 0 then k else e
variable {w w' : World} {pb : Nat} {s : ByteArray} {e : Int}
set_option maxRecDepth 100000 in
theorem Rs.keep (h : Rs w pb s e) (hb : Below w.heap.size w w') : Rs w' pb s e := Box.keep h hb
set_option maxRecDepth 100000 in
theorem Rs.lt (h : Rs w pb s e) : pb < w.heap.size := Box.lt h
set_option maxRecDepth 100000 in
theorem Rs.c0 (h : Rs w pb s e) : w.cell? ⟨pb, 0, none⟩ = some (.string s) := Box.cell h 0
set_option maxRecDepth 100000 in
theorem Rs.c1 (h : Rs w pb s e) : w.cell? ⟨pb, 1, none⟩ = some (.int .i64 e) := Box.cell h 1
set_option maxRecDepth 100000 in
theorem Rs.fr (h : Rs w pb s e) (i : Nat) : w.frozen? ⟨pb, i, none⟩ = false := Box.free h i
set_option maxRecDepth 100000 in
theorem Rs.set0 (h : Rs w pb s e) (t : ByteArray) : Rs (w.setCell ⟨pb, 0, none⟩ (.string t)) pb t e := Box.set h 0 _
set_option maxRecDepth 100000 in
theorem Rs.set1 (h : Rs w pb s e) (k : Int) : Rs (w.setCell ⟨pb, 1, none⟩ (.int .i64 k)) pb s k := Box.set h 1 _
set_option maxRecDepth 100000 in
theorem Rs.only {own : List Nat} (h : Rs w pb s e) (k : Only own w w') (hn : pb ∉ own) : Rs w' pb s e := by
  unfold Rs Box at *
  rw [k.block pb (Array.getElem?_eq_some_iff.1 h).1 hn]; exact h
set_option maxRecDepth 100000 in
theorem only_below (h : Below w.heap.size w w') (own : List Nat) : Only own w w' := ⟨h.os, h.tape, h.output, h.size, fun k hk _ => h.block k hk⟩
set_option maxRecDepth 100000 in
theorem Tb.only {own : List Nat} (h : Tb w) (k : Only own w w') (hn : ∀ x ∈ own, 3 ≤ x) : Tb w' := by
  obtain ⟨m, hm⟩ := h.max
  have h0 := h.tabs.1 0 (by decide)
  have h1 := (h.tabs.2 0 (by decide)).1
  have lt : ∀ {a : Addr} {v : Value}, w.cell? a = some v → a.block < w.heap.size := fun {a v} hc => by
    rcases Nat.lt_or_ge a.block w.heap.size with h' | h'
    · exact h'
    · simp [World.cell?, Array.getElem?_eq_none h'] at hc
  have cellk : ∀ {a : Addr} {v : Value}, a.block < 3 → w.cell? a = some v → w'.cell? a = some v := fun {a v} ha hc => by
    have hb := k.block a.block (lt hc) (fun hx => by have := hn _ hx; omega)
    rw [World.cell?_of_block hb]; exact hc
  exact ⟨⟨fun c hc => cellk (by simp) (h.tabs.1 c hc), fun i hi => ⟨cellk (by simp) (h.tabs.2 i hi).1, cellk (by simp) (h.tabs.2 i hi).2⟩⟩, m, cellk (by simp) hm⟩

set_option maxRecDepth 100000 in
set_option maxHeartbeats 1000000 in
theorem fail_own (h : Rs w pb s e) (k : Int) :
    Calls Tryd.prog 71 #[.pointer (some ⟨pb, 0, none⟩), .int .i64 k] w fun x w' => x = .returned (.tuple #[]) ∧ Rs w' pb s (fl e k) ∧ Only [pb] w w' := by
  have c0 := h.c0
  have c1 := h.c1
  have f1 := h.fr 1
  have H := Lib.hid h
  clear h
  by_cases he : e = 0
  · subst he
    have hf : fl 0 k = k := rfl
    rw [hf]
    go_enter Tryd.func71, Tryd.ntmps71
    go_wp2
    go_end0
    exact ⟨rfl, H.out.set1 k, (Only.refl _ _).set (by simp) _⟩
  · have hf : fl e k = e := if_neg he
    have hq : (e == 0) = false := by simpa using he
    rw [hf]
    go_enter Tryd.func71, Tryd.ntmps71
    go_wp2
    go_end0
    exact ⟨rfl, H.out, Only.refl _ _⟩

/-- a sign, which has to be that one -/
def signR (s : Bytes) : Rd Unit := match s with
  | [] => .err 8
  | c :: r => if c = 36 then .ok () r else .err 9
/-- what is left behind a reading -/
def RsOut {α : Type} (w' : World) (pb : Nat) (s : ByteArray) (e : Int) : Rd α → Prop
  | .ok _ r => Rs w' pb (bat r) e
  | .err k => Rs w' pb s (fl e k)

set_option maxRecDepth 100000 in
set_option maxHeartbeats 1000000 in
theorem sign_own (h : Rs w pb s e) (hs : s.size ≤ 65000) :
    Calls Tryd.prog 77 #[.pointer (some ⟨pb, 0, none⟩), .int .u8 36] w fun x w' => x = .returned (.tuple #[]) ∧ RsOut w' pb s e (signR s.data.toList) ∧ Only [pb] w w' := by
  have c0 := h.c0
  have c1 := h.c1
  have f0 := h.fr 0
  have HF := Lib.hid (fail_own h)
  have H := Lib.hid h
  clear h
  by_cases h0 : s.size = 0
  · have hl : s.data.toList = [] := List.length_eq_zero_iff.1 (by rw [← Lib.size_eq]; exact h0)
    have hemp : s.toList.isEmpty = true := by rw [Lib.toList_data, hl]; rfl
    rw [hl]
    clear hl
    go_enter Tryd.func77, Tryd.ntmps77
    go_wp2_with fail
    refine (HF.out 8).mono ?_
    rintro x w1 ⟨rfl, h1, hk⟩
    go_wp2
    go_end0
    exact ⟨rfl, h1, hk⟩
  · obtain ⟨c, hc⟩ : ∃ c, s[0]'(by omega) = c := ⟨_, rfl⟩
    have hl : s.data.toList = c :: s.data.toList.drop 1 := by
      have hlen : 0 < s.data.toList.length := by rw [← Lib.size_eq]; omega
      have := List.drop_eq_getElem_cons (l := s.data.toList) (i := 0) hlen
      rw [List.drop_zero, byte_of s 0 (by omega), hc] at this
      simpa using this
    have hemp : s.toList.isEmpty = false := by rw [Lib.toList_data, hl]; rfl
    have hz : (0 : Int) < (s.size : Int) := by omega
    have hz1 : (1 : Int) ≤ (s.size : Int) := by omega
    have hx : (s.extract 1 s.size) = bat (s.data.toList.drop 1) := by
      have := Lib.extract_toList s 1 s.size
      rw [Lib.toList_data] at this
      have h2 : (s.data.toList.drop 1).take (s.size - 1) = s.data.toList.drop 1 := by
        apply List.take_of_length_le; rw [List.length_drop, ← Lib.size_eq]; exact Nat.le_refl _
      rw [h2] at this
      have e2 : (s.extract 1 s.size).data = (s.data.toList.drop 1).toArray := by rw [← this]
      show _ = ByteArray.mk _
      rw [← e2]
    have HX := Lib.hid hx
    by_cases h36 : c = 36
    · subst h36
      have hq : ((36 : Int) != 36) = false := rfl
      have hR : signR s.data.toList = .ok () (s.data.toList.drop 1) := by rw [hl]; rfl
      rw [hR]
      clear hR hl hx
      go_enter Tryd.func77, Tryd.ntmps77
      go_wp2
      go_end0
      refine ⟨rfl, ?_, (Only.refl _ _).set (by simp) _⟩
      show Rs _ _ _ _
      rw [HX.out]
      exact H.out.set0 _
    · have hq : ((c.toNat : Int) != 36) = true := by
        have : c.toNat ≠ 36 := fun x => h36 (UInt8.toNat_inj.1 (by simpa using x))
        simp; omega
      have hR : signR s.data.toList = .err 9 := by rw [hl]; unfold signR; exact if_neg h36
      rw [hR]
      clear hR hl hx
      go_enter Tryd.func77, Tryd.ntmps77
      go_wp2_with fail
      refine (HF.out 9).mono ?_
      rintro x w1 ⟨rfl, h1, hk⟩
      go_wp2
      go_end0
      exact ⟨rfl, h1, hk⟩

set_option maxRecDepth 100000 in
/-- text behind a place -/
theorem cut_from (s : ByteArray) (n : Nat) (_h : n ≤ s.size) : s.extract n s.size = bat (s.data.toList.drop n) := by
  have := Lib.extract_toList s n s.size
  rw [Lib.toList_data] at this
  have h2 : (s.data.toList.drop n).take (s.size - n) = s.data.toList.drop n := by
    apply List.take_of_length_le; rw [List.length_drop, ← Lib.size_eq]; exact Nat.le_refl _
  rw [h2] at this
  have e2 : (s.extract n s.size).data = (s.data.toList.drop n).toArray := by rw [← this]
  show _ = ByteArray.mk _
  rw [← e2]
set_option maxRecDepth 100000 in
theorem cut_upto (s : ByteArray) (n : Nat) : s.extract 0 n = bat (s.data.toList.take n) := by
  have := Lib.extract_toList s 0 n
  rw [Lib.toList_data, List.drop_zero, Nat.sub_zero] at this
  have e2 : (s.extract 0 n).data = (s.data.toList.take n).toArray := by rw [← this]
  show _ = ByteArray.mk _
  rw [← e2]

set_option maxRecDepth 100000 in
set_option maxHeartbeats 2000000 in
theorem bytes_own (h : Rs w pb s e) (_hs : s.size ≤ 65000) (n : Nat) (hn : n ≤ 1099511627776) :
    Calls Tryd.prog 76 #[.pointer (some ⟨pb, 0, none⟩), .int .i64 n] w fun x w' => (match bytesR n s.data.toList with
      | .ok t r => x = .returned (.string (bat t)) ∧ Rs w' pb (bat r) e
      | .err k => x = .returned (.string ByteArray.empty) ∧ Rs w' pb s (fl e k)) ∧ Only [pb] w w' := by
  have c0 := h.c0
  have c1 := h.c1
  have f0 := h.fr 0
  have HF := Lib.hid (fun (w1 : World) (h1 : Rs w1 pb s e) => fail_own h1)
  have H := Lib.hid h
  clear h
  rw [bytes_cut]
  have hl : s.data.toList.length = s.size := (Lib.size_eq s).symm
  rw [hl]
  by_cases hlt : s.size < n
  · rw [if_pos hlt]
    have hz : (s.size : Int) < (n : Int) := by omega
    clear hl
    go_enter Tryd.func76, Tryd.ntmps76
    go_wp2_with fail
    refine (HF.out _ H.out 8).mono ?_
    rintro x w1 ⟨rfl, h1, hk⟩
    go_wp2
    go_ret
    exact ⟨⟨rfl, h1⟩, hk⟩
  · rw [if_neg hlt]
    have hz : ¬ ((s.size : Int) < (n : Int)) := by omega
    have hz2 : (n : Int) ≤ (s.size : Int) := by omega
    have hz0 : (0 : Int) ≤ (n : Int) := by omega
    have hx1 := cut_from s n (by omega)
    have hx2 := cut_upto s n
    obtain ⟨B, hB⟩ : ∃ B, s.data.toList.drop n = B := ⟨_, rfl⟩
    obtain ⟨A, hA⟩ : ∃ A, s.data.toList.take n = A := ⟨_, rfl⟩
    rw [hB] at hx1 ⊢
    rw [hA] at hx2 ⊢
    have hbl : B.length = s.size - n := by rw [← hB, List.length_drop, hl]
    clear hl hB hA
    have HP1 := Lib.hid (fun w => Tryd.strings_HasPrefix (bat B) ⟨#[13, 10]⟩ w)
    have HP2 := Lib.hid (fun w => Tryd.strings_HasPrefix ⟨#[13, 10]⟩ (bat B) w)
    cases hp : Lib.hasPrefix B [13, 10]
    · rw [if_neg (by simp)]
      have HP1' : Hid (∀ w, Calls Tryd.prog 85 #[.string (bat B), .string ⟨#[13, 10]⟩] w fun x w' => x = .returned (.bool false) ∧ w' = w) := Lib.hid (fun w => (HP1.out w).mono fun x w' q => ⟨by rw [q.1]; exact congrArg (fun b => Ending.returned (Value.bool b)) hp, q.2⟩)
      clear HP1 hp
      cases hq : Lib.hasPrefix [13, 10] B
      · rw [if_neg (by simp)]
        have HP2' : Hid (∀ w, Calls Tryd.prog 85 #[.string ⟨#[13, 10]⟩, .string (bat B)] w fun x w' => x = .returned (.bool false) ∧ w' = w) := Lib.hid (fun w => (HP2.out w).mono fun x w' q => ⟨by rw [q.1]; exact congrArg (fun b => Ending.returned (Value.bool b)) hq, q.2⟩)
        clear HP2 hq
        go_enter Tryd.func76, Tryd.ntmps76
        go_wp2
        go_quiet (fail)
        have H1 : Hid (Rs (w.drewN nq) pb s e) := Lib.hid H.out
        have HK : Hid (Only [pb] w (w.drewN nq)) := Lib.hid ((Only.refl _ _).drewN _)
        generalize w.drewN nq = W1 at H1 HK ⊢
        have d0 := H1.out.c0
        have d1 := H1.out.c1
        have g0 := H1.out.fr 0
        go_wp2_with fail
        refine (HP1'.out _).mono ?_
        rintro x w1 ⟨rfl, rfl⟩
        go_wp2_with fail
        refine (HP2'.out _).mono ?_
        rintro x w2 ⟨rfl, rfl⟩
        go_wp2_with fail
        refine (HF.out _ H1.out 9).mono ?_
        rintro x w3 ⟨rfl, h3, hk3⟩
        go_wp2
        go_ret
        exact ⟨⟨rfl, h3⟩, HK.out.also hk3⟩
      · rw [if_pos rfl]
        have HP2' : Hid (∀ w, Calls Tryd.prog 85 #[.string ⟨#[13, 10]⟩, .string (bat B)] w fun x w' => x = .returned (.bool true) ∧ w' = w) := Lib.hid (fun w => (HP2.out w).mono fun x w' q => ⟨by rw [q.1]; exact congrArg (fun b => Ending.returned (Value.bool b)) hq, q.2⟩)
        clear HP2 hq
        go_enter Tryd.func76, Tryd.ntmps76
        go_wp2
        go_quiet (fail)
        have H1 : Hid (Rs (w.drewN nq) pb s e) := Lib.hid H.out
        have HK : Hid (Only [pb] w (w.drewN nq)) := Lib.hid ((Only.refl _ _).drewN _)
        generalize w.drewN nq = W1 at H1 HK ⊢
        have d0 := H1.out.c0
        have d1 := H1.out.c1
        have g0 := H1.out.fr 0
        go_wp2_with fail
        refine (HP1'.out _).mono ?_
        rintro x w1 ⟨rfl, rfl⟩
        go_wp2_with fail
        refine (HP2'.out _).mono ?_
        rintro x w2 ⟨rfl, rfl⟩
        go_wp2_with fail
        refine (HF.out _ H1.out 8).mono ?_
        rintro x w3 ⟨rfl, h3, hk3⟩
        go_wp2
        go_ret
        exact ⟨⟨rfl, h3⟩, HK.out.also hk3⟩
    · rw [if_pos rfl]
      have HP1' : Hid (∀ w, Calls Tryd.prog 85 #[.string (bat B), .string ⟨#[13, 10]⟩] w fun x w' => x = .returned (.bool true) ∧ w' = w) := Lib.hid (fun w => (HP1.out w).mono fun x w' q => ⟨by rw [q.1]; exact congrArg (fun b => Ending.returned (Value.bool b)) hp, q.2⟩)
      have hB2 : 2 ≤ B.length := by
        unfold Lib.hasPrefix at hp
        have := List.IsPrefix.length_le (List.isPrefixOf_iff_prefix.1 hp)
        simpa using this
      have hbs : ((bat B).size : Int) = (B.length : Int) := by rw [Lib.size_eq]
      have hb2 : (2 : Int) ≤ ((bat B).size : Int) := by rw [hbs]; omega
      have hx3 := Lib.hid (cut_from (bat B) 2 (by omega))
      clear HP1 hp HP2
      go_enter Tryd.func76, Tryd.ntmps76
      go_wp2
      go_quiet (fail)
      have H1 : Hid (Rs (w.drewN nq) pb s e) := Lib.hid H.out
      have HK : Hid (Only [pb] w (w.drewN nq)) := Lib.hid ((Only.refl _ _).drewN _)
      generalize w.drewN nq = W1 at H1 HK ⊢
      have d0 := H1.out.c0
      have d1 := H1.out.c1
      have g0 := H1.out.fr 0
      go_wp2_with fail
      refine (HP1'.out _).mono ?_
      rintro x w1 ⟨rfl, rfl⟩
      go_wp2
      go_ret
      refine ⟨⟨rfl, ?_⟩, HK.out.set (by simp) _⟩
      have := H1.out.set0 (bat (B.drop 2))
      have e3 : bat (B.drop 2) = (bat B).extract 2 (bat B).size := hx3.out.symm
      have e4 : (bat B).size = s.size - n := by rw [Lib.size_eq]; exact hbl
      rw [e3] at this ⊢
      rw [e4] at this ⊢
      exact this
end Ry
end Go.Proofs.YtflmolhkbpicbaaDoor
