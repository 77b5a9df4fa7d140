/-
  The document's own way to read commands, as a function; it reads as the machine does.
-/
import Derived.Test.YtgjedhdnnfdcgaaRspMath
namespace Go.Proofs.Ytgjedhdnnfdcgaa.Rp
open Dg (isD)

/-- a line: too short, wrong, or so long, with a number -/
inductive Ln where
  | short
  | wrong
  | ok (k n : Nat)
/-- the digits that bytes begin with: five at most -/
def digs (t : Bytes) : Bytes := (t.take 5).takeWhile isD
/-- what stands behind a line's sign -/
def tailR (lo hi : Nat) (t : Bytes) : Ln :=
  if t.drop (digs t).length = [] ∧ (digs t = [] ∨ valid lo hi (digs t) = true) then .short
  else if valid lo hi (digs t) = false then .wrong
  else match t.drop (digs t).length with
    | [] => .short
    | c :: r => if c ≠ 13 then .wrong else match r with
      | [] => .short
      | d :: _ => if d ≠ 10 then .wrong else .ok ((digs t).length + 2) (valN (digs t))
theorem digs_split (t : Bytes) : t = digs t ++ t.drop (digs t).length := by
  have h : digs t <+: t := (List.takeWhile_prefix _).trans (List.take_prefix _ _)
  obtain ⟨r, hr⟩ := h
  have : t.drop (digs t).length = r := by
    conv => lhs; arg 2; rw [← hr]
    simp
  rw [this, hr]
theorem digs_all (t : Bytes) : ∀ c ∈ digs t, isD c = true := fun c hc => by
  unfold digs at hc
  exact List.all_eq_true.1 (List.all_takeWhile (p := isD) (l := t.take 5)) c hc
theorem isD_ne13 {c : UInt8} (h : isD c = true) : c ≠ 13 := fun e => by subst e; simp [isD] at h
/-- the digits end with the bytes, with a byte that is none, or are five -/
theorem digs_end {t : Bytes} {c : UInt8} {r : Bytes} (h : t.drop (digs t).length = c :: r) : isD c = false ∨ (digs t).length = 5 := by
  unfold digs at *
  by_cases h5 : ((t.take 5).takeWhile isD).length = 5
  · exact .inr h5
  · left
    have hlt : ((t.take 5).takeWhile isD).length < 5 := by
      have := (List.takeWhile_prefix (p := isD) (l := t.take 5)).length_le
      rw [List.length_take] at this
      omega
    generalize hd : (t.take 5).takeWhile isD = ds at h hlt
    have h1 : (t.take 5).drop ds.length = c :: r.take (5 - ds.length - 1) := by
      rw [List.drop_take, h]
      have : 5 - ds.length = (5 - ds.length - 1) + 1 := by omega
      rw [this, List.take_succ_cons]
      simp
    have h2 : (t.take 5) = ds ++ (t.take 5).dropWhile isD := by rw [← hd]; exact (List.takeWhile_append_dropWhile).symm
    have h3 : (t.take 5).dropWhile isD = c :: r.take (5 - ds.length - 1) := by
      have := congrArg (List.drop ds.length) h2
      rw [h1] at this
      simpa using this.symm
    have h4 := List.head?_dropWhile_not (p := isD) (l := t.take 5)
    rw [h3] at h4
    simpa using h4
theorem valid_len {lo hi : Nat} {ds : Bytes} (hhi : hi ≤ 1000) (h : valid lo hi ds = true) : ds.length ≤ 4 := by
  obtain ⟨n, rfl, _, h2⟩ := valid_iff.1 h
  exact Dg.dec_len 3 n (by omega)
theorem valid_snoc_not {lo hi : Nat} {ds : Bytes} {c : UInt8} (h : isD c = false) : valid lo hi (ds ++ [c]) = false := by
  cases hv : valid lo hi (ds ++ [c]) with
  | false => rfl
  | true =>
    obtain ⟨n, hn, _, _⟩ := valid_iff.1 hv
    have := Dg.dec_all n c (by rw [← hn]; simp)
    rw [this] at h; cases h
theorem valid_nil {lo hi : Nat} : valid lo hi [] = false := by
  cases hv : valid lo hi [] with
  | false => rfl
  | true =>
    obtain ⟨n, hn, _, _⟩ := valid_iff.1 hv
    exact absurd hn.symm (Dg.dec_ne n)

/-- a state that reads digits -/
structure Num (s : Bytes → St) (crs : Nat → St) (go : Nat → St) (lo hi : Nat) : Prop where
  low : lo ≤ 1
  high : hi ≤ 1000
  digit : ∀ ds c, c ≠ 13 → step (s ds) c = if valid lo hi (ds ++ [c]) then (s (ds ++ [c]), none) else (.bad, none)
  cr : ∀ ds, step (s ds) 13 = if valid lo hi ds then (crs (valN ds), none) else (.bad, none)
  lf : ∀ n c, step (crs n) c = if c = 10 then (go n, none) else (.bad, none)
  nb : ∀ ds, s ds ≠ .bad
  nb2 : ∀ n, crs n ≠ .bad
theorem many_num : Num .many .manyCr (fun n => .dollar n []) 1 50 where
  low := by decide
  high := by decide
  digit := fun ds c h => by unfold step; simp only [if_neg h]
  cr := fun ds => by unfold step; simp
  lf := fun n c => by unfold step; rfl
  nb := fun _ h => by cases h
  nb2 := fun _ h => by cases h
theorem len_num (left : Nat) (args : List Bytes) : Num (.len left args) (.lenCr left args) (fun n => .body left args n []) 0 1000 where
  low := by decide
  high := by decide
  digit := fun ds c h => by unfold step; simp only [if_neg h]
  cr := fun ds => by unfold step; simp
  lf := fun n c => by unfold step; rfl
  nb := fun _ h => by cases h
  nb2 := fun _ h => by cases h
variable {s : Bytes → St} {crs go : Nat → St} {lo hi : Nat}
theorem Num.reads (N : Num s crs go lo hi) {ds l : Bytes} (h : l = [] ∨ valid lo hi (ds ++ l) = true) : run (s ds) l = (s (ds ++ l), []) := by
  induction l generalizing ds with
  | nil => simp [run]
  | cons c l ih =>
    have hv : valid lo hi (ds ++ c :: l) = true := h.resolve_left (by simp)
    have h13 : c ≠ 13 := digit_ne13 hv c (by simp)
    have hv2 : valid lo hi ((ds ++ [c]) ++ l) = true := by simpa using hv
    have hp : valid lo hi (ds ++ [c]) = true := (valid_prefix N.low l _ rfl hv2).resolve_left (by simp)
    simp only [run, N.digit ds c h13, if_pos hp]
    rw [ih (.inr hv2)]
    simp
theorem Num.fails (N : Num s crs go lo hi) {ds l : Bytes} (hl : l ≠ []) (hd : ∀ c ∈ l, c ≠ 13) (h : valid lo hi (ds ++ l) = false) : run (s ds) l = (.bad, []) := by
  induction l generalizing ds with
  | nil => exact absurd rfl hl
  | cons c l ih =>
    simp only [run, N.digit ds c (hd c (by simp))]
    by_cases hv : valid lo hi (ds ++ [c]) = true
    · rw [if_pos hv]
      have hl2 : l ≠ [] := fun e => by subst e; rw [hv] at h; cases h
      rw [ih hl2 (fun x hx => hd x (by simp [hx])) (by simpa using h)]
      rfl
    · rw [if_neg hv, run_bad]; rfl
/-- the machine reads a line as the document does -/
theorem Num.tail (N : Num s crs go lo hi) (t : Bytes) : match tailR lo hi t with
    | .short => (run (s []) t).1 ≠ .bad ∧ (run (s []) t).2 = []
    | .wrong => run (s []) t = (.bad, [])
    | .ok k n => run (s []) (t.take k) = (go n, []) ∧ k ≤ t.length ∧ 2 ≤ k ∧ lo ≤ n ∧ n ≤ hi := by
  have hs := digs_split t
  have hall := digs_all t
  have hend := fun c r => @digs_end t c r
  have hkd : ∀ k, t.drop ((digs t).length + k) = (t.drop (digs t).length).drop k := fun k => by rw [List.drop_drop]
  have hlen := congrArg List.length hs
  rw [List.length_append] at hlen
  unfold tailR
  generalize digs t = ds at *
  generalize t.drop ds.length = rest at *
  by_cases hv : valid lo hi ds = true
  · have hr := N.reads (ds := []) (l := ds) (.inr (by simpa using hv))
    rw [List.nil_append] at hr
    have hl4 := valid_len N.high hv
    cases rest with
    | nil =>
      rw [if_pos ⟨rfl, .inr hv⟩]
      rw [hs, List.append_nil, hr]
      exact ⟨N.nb _, rfl⟩
    | cons c r =>
      rw [if_neg (by simp), if_neg (by rw [hv]; simp)]
      have hrun : run (s []) t = run (s ds) (c :: r) := by rw [hs, run_append, hr]; simp
      simp only
      by_cases hc : c = 13
      · rw [if_neg (by simpa using hc)]
        subst hc
        have h13 : run (s ds) (13 :: r) = run (crs (valN ds)) r := by simp only [run, N.cr, if_pos hv]; simp
        cases r with
        | nil =>
          simp only
          rw [hrun, h13]
          exact ⟨N.nb2 _, rfl⟩
        | cons d r =>
          simp only
          by_cases hd : d = 10
          · rw [if_neg (by simpa using hd)]
            simp only
            subst hd
            obtain ⟨e, h1, h2⟩ := dec_valN hv
            refine ⟨?_, by simp at hlen; omega, by omega, h1, h2⟩
            have ht : t.take (ds.length + 2) = ds ++ [13, 10] := by rw [hs, List.take_append, List.take_of_length_le (by omega)]; simp
            rw [ht, run_append, hr]
            simp [run, N.cr, N.lf, hv]
          · rw [if_pos (by simpa using hd)]
            simp only
            rw [hrun, h13]
            simp only [run, N.lf, if_neg hd, run_bad]
            rfl
      · rw [if_pos (by simpa using hc)]
        simp only
        have hnd : isD c = false := (hend c r rfl).resolve_right (by omega)
        rw [hrun]
        simp [run, N.digit ds c hc, valid_snoc_not (lo := lo) (hi := hi) (ds := ds) hnd, run_bad]
  · have hvf : valid lo hi ds = false := by simpa using hv
    cases hds : ds with
    | nil =>
      subst hds
      cases rest with
      | nil =>
        rw [if_pos ⟨rfl, .inl rfl⟩]
        rw [hs]
        exact ⟨N.nb _, rfl⟩
      | cons c r =>
        rw [if_neg (by simp), if_pos hvf]
        simp only
        have hnd : isD c = false := (hend c r rfl).resolve_right (by simp)
        rw [hs, List.nil_append]
        by_cases hc : c = 13
        · subst hc
          simp [run, N.cr, hvf, run_bad]
        · have := valid_snoc_not (lo := lo) (hi := hi) (ds := []) hnd
          have hd0 := N.digit [] c hc
          rw [this] at hd0
          simp [run, hd0, run_bad]
    | cons d0 ds0 =>
      rw [← hds]
      have hne : ds ≠ [] := by rw [hds]; simp
      rw [if_neg (by rintro ⟨_, h | h⟩; exact hne h; exact hv h), if_pos hvf]
      simp only
      have hf := N.fails (ds := []) hne (fun c hc => isD_ne13 (hall c hc)) (by simpa using hvf)
      rw [hs, run_append, hf, run_bad]
      rfl

inductive Rs where
  | short
  | wrong
  | ok (args : List Bytes) (rest : Bytes)
/-- what stands behind an argument's line: so many bytes, and an end -/
def bodyR (n : Nat) (t : Bytes) : Option (Option (Bytes × Bytes)) :=
  if t.length < n then some none else match t.drop n with
    | [] => some none
    | [c] => if c = 13 then some none else none
    | c :: d :: r => if c = 13 ∧ d = 10 then some (some (t.take n, r)) else none
def argsR : Nat → List Bytes → Bytes → Rs
  | 0, args, l => .ok args l
  | _ + 1, _, [] => .short
  | m + 1, args, c :: t =>
    if c ≠ 36 then .wrong else match tailR 0 1000 t with
    | .short => .short
    | .wrong => .wrong
    | .ok k n => match bodyR n (t.drop k) with
      | none => .wrong
      | some none => .short
      | some (some (a, r)) => argsR m (args ++ [a]) r
def oneR : Bytes → Rs
  | [] => .short
  | c :: t =>
    if c ≠ 42 then .wrong else match tailR 1 50 t with
    | .short => .short
    | .wrong => .wrong
    | .ok k n => argsR n [] (t.drop k)
def wholeR : Nat → Bytes → List (List Bytes) × Nat × Bool
  | 0, _ => ([], 0, false)
  | f + 1, l => if l = [] then ([], 0, false) else match oneR l with
    | .short => ([], 0, false)
    | .wrong => ([], 0, true)
    | .ok args r => (args :: (wholeR f r).1, (l.length - r.length) + (wholeR f r).2.1, (wholeR f r).2.2)

theorem body_reads (left : Nat) (args : List Bytes) (n : Nat) (t : Bytes) : match bodyR n t with
    | some none => (run (.body left args n []) t).1 ≠ .bad ∧ (run (.body left args n []) t).2 = []
    | none => run (.body left args n []) t = (.bad, [])
    | some (some (a, r)) => t = a ++ [13, 10] ++ r ∧ a.length = n ∧ run (.body left args n []) (a ++ [13, 10]) = if left ≤ 1 then (.star, [args ++ [a]]) else (.dollar (left - 1) (args ++ [a]), []) := by
  unfold bodyR
  by_cases hl : t.length < n
  · rw [if_pos hl]
    have := run_body (left := left) (args := args) (n := n) (bs := []) (l := t) (by simp; omega)
    simp only
    rw [this]
    exact ⟨fun h => (by cases h), rfl⟩
  · rw [if_neg hl]
    have hs : t = t.take n ++ t.drop n := (List.take_append_drop n t).symm
    have hlen : (t.take n).length = n := by rw [List.length_take]; omega
    have hb := run_body (left := left) (args := args) (n := n) (bs := []) (l := t.take n) (by simp; omega)
    rw [List.nil_append] at hb
    generalize t.take n = a at *
    generalize t.drop n = r at *
    have hna : ¬ a.length < n := by omega
    cases r with
    | nil =>
      simp only
      rw [hs, List.append_nil, hb]
      exact ⟨fun h => (by cases h), rfl⟩
    | cons c r =>
      cases r with
      | nil =>
        simp only
        by_cases hc : c = 13
        · rw [if_pos hc]
          simp only
          rw [hs, run_append, hb]
          subst hc
          simp [run, step, hna]
        · rw [if_neg hc]
          simp only
          rw [hs, run_append, hb]
          simp [run, step, hna, hc]
      | cons d r =>
        simp only
        by_cases hc : c = 13 ∧ d = 10
        · rw [if_pos hc]
          simp only
          obtain ⟨rfl, rfl⟩ := hc
          refine ⟨by rw [hs]; simp, hlen, ?_⟩
          rw [run_append, hb]
          by_cases hl2 : left ≤ 1 <;> simp [run, step, hna, hl2]
        · rw [if_neg hc]
          simp only
          rw [hs, run_append, hb]
          by_cases h1 : c = 13
          · have h2 : d ≠ 10 := fun e => hc ⟨h1, e⟩
            subst h1
            simp [run, step, hna, h2, run_bad]
          · simp [run, step, hna, h1, run_bad]

theorem args_reads : ∀ (m : Nat) (args : List Bytes) (l : Bytes), 1 ≤ m → match argsR m args l with
    | .short => (run (.dollar m args) l).1 ≠ .bad ∧ (run (.dollar m args) l).2 = []
    | .wrong => run (.dollar m args) l = (.bad, [])
    | .ok a r => ∃ p, l = p ++ r ∧ run (.dollar m args) p = (.star, [a]) := by
  intro m
  induction m with
  | zero => intro _ _ h; omega
  | succ m ih =>
    intro args l _
    cases l with
    | nil => exact ⟨fun h => (by cases h), rfl⟩
    | cons c t =>
      unfold argsR
      by_cases hc : c = 36
      · rw [if_neg (by simpa using hc)]
        subst hc
        have h0 : ∀ q, run (.dollar (m + 1) args) (36 :: q) = run (.len (m + 1) args []) q := fun q => by simp [run, step]
        have hT := (len_num (m + 1) args).tail t
        cases hq : tailR 0 1000 t with
        | short => rw [hq] at hT; simp only at hT ⊢; rw [h0]; exact hT
        | wrong => rw [hq] at hT; simp only at hT ⊢; rw [h0]; exact hT
        | ok k n =>
          rw [hq] at hT
          simp only at hT ⊢
          obtain ⟨h1, h2, h3, h4, h5⟩ := hT
          have hts : t = t.take k ++ t.drop k := (List.take_append_drop k t).symm
          have hrun : ∀ q, run (.dollar (m + 1) args) (36 :: (t.take k ++ q)) = run (.body (m + 1) args n []) q := fun q => by rw [h0, run_append, h1]; simp
          have hB := body_reads (m + 1) args n (t.drop k)
          cases hb : bodyR n (t.drop k) with
          | none =>
            rw [hb] at hB
            simp only at hB ⊢
            have := hrun (t.drop k)
            rw [← hts] at this
            rw [this]; exact hB
          | some o =>
            cases o with
            | none =>
              rw [hb] at hB
              simp only at hB ⊢
              have := hrun (t.drop k)
              rw [← hts] at this
              rw [this]; exact hB
            | some ar =>
              obtain ⟨a, r⟩ := ar
              rw [hb] at hB
              simp only at hB ⊢
              obtain ⟨e1, e2, e3⟩ := hB
              have hts2 : (36 : UInt8) :: t = 36 :: (t.take k ++ (a ++ [13, 10])) ++ r := by
                conv => lhs; rw [hts, e1]
                simp
              have hp := hrun (a ++ [13, 10])
              rw [e3] at hp
              by_cases hm : m = 0
              · subst hm
                rw [if_pos (by omega)] at hp
                exact ⟨_, hts2, hp⟩
              · rw [if_neg (by omega)] at hp
                have hi := ih (args ++ [a]) r (by omega)
                have hall : run (.dollar (m + 1) args) (36 :: t) = run (.dollar m (args ++ [a])) r := by
                  rw [hts2, run_append, hp]
                  simp
                cases hq2 : argsR m (args ++ [a]) r with
                | short => rw [hq2] at hi; simp only at hi ⊢; rw [hall]; exact hi
                | wrong => rw [hq2] at hi; simp only at hi ⊢; rw [hall]; exact hi
                | ok a2 r2 =>
                  rw [hq2] at hi
                  simp only at hi ⊢
                  obtain ⟨p, e4, e5⟩ := hi
                  refine ⟨36 :: (t.take k ++ (a ++ [13, 10])) ++ p, by rw [hts2, e4]; simp, ?_⟩
                  rw [run_append, hp]
                  simp only [Nat.add_sub_cancel, e5]
                  simp
      · rw [if_pos (by simpa using hc)]
        simp [run, step, hc, run_bad]
theorem one_reads (l : Bytes) : match oneR l with
    | .short => (run .star l).1 ≠ .bad ∧ (run .star l).2 = []
    | .wrong => run .star l = (.bad, [])
    | .ok a r => l = enc a ++ r ∧ run .star (enc a) = (.star, [a]) := by
  cases l with
  | nil => exact ⟨fun h => (by cases h), rfl⟩
  | cons c t =>
    unfold oneR
    simp only
    by_cases hc : c = 42
    · rw [if_neg (by simpa using hc)]
      subst hc
      have h0 : ∀ q, run .star (42 :: q) = run (.many []) q := fun q => by simp [run, step]
      have hT := many_num.tail t
      cases hq : tailR 1 50 t with
      | short => rw [hq] at hT; simp only at hT ⊢; rw [h0]; exact hT
      | wrong => rw [hq] at hT; simp only at hT ⊢; rw [h0]; exact hT
      | ok k n =>
        rw [hq] at hT
        simp only at hT ⊢
        obtain ⟨h1, h2, h3, h4, h5⟩ := hT
        have hts : t = t.take k ++ t.drop k := (List.take_append_drop k t).symm
        have hrun : ∀ q, run .star (42 :: (t.take k ++ q)) = run (.dollar n []) q := fun q => by rw [h0, run_append, h1]; simp
        have hA := args_reads n [] (t.drop k) h4
        have hall := hrun (t.drop k)
        rw [← hts] at hall
        cases hq2 : argsR n [] (t.drop k) with
        | short => rw [hq2] at hA; simp only at hA ⊢; rw [hall]; exact hA
        | wrong => rw [hq2] at hA; simp only at hA ⊢; rw [hall]; exact hA
        | ok a r =>
          rw [hq2] at hA
          simp only at hA ⊢
          obtain ⟨p, e1, e2⟩ := hA
          have hp : run .star (42 :: (t.take k ++ p)) = (.star, [a]) := by rw [hrun, e2]
          obtain ⟨_, _, rest, e3, e4⟩ := run_ok (s := .star) trivial (42 :: (t.take k ++ p))
          rw [hp] at e3 e4
          rcases e4 with e4 | e4
          · cases e4
          · subst e4
            have e5 : 42 :: (t.take k ++ p) = enc a := by simpa [got, encs] using e3
            refine ⟨?_, by rw [← e5]; exact hp⟩
            rw [← e5]
            conv => lhs; rw [hts, e1]
            simp
    · rw [if_pos (by simpa using hc)]
      simp [run, step, hc, run_bad]
/-- the document reads as the machine does -/
theorem whole_reads (f : Nat) (l : Bytes) (h : l.length ≤ f) : wholeR f l = (cmds l, used l, wrong l) := by
  induction f generalizing l with
  | zero =>
    obtain rfl := List.eq_nil_of_length_eq_zero (by omega : l.length = 0)
    rfl
  | succ f ih =>
    unfold wholeR
    by_cases hl : l = []
    · subst hl; rfl
    · rw [if_neg hl]
      have h1 := one_reads l
      cases hq : oneR l with
      | short =>
        rw [hq] at h1
        simp only at h1 ⊢
        have hc : cmds l = [] := h1.2
        have hw : wrong l = false := by
          cases hw : wrong l with
          | false => rfl
          | true => exact absurd (wrong_iff.1 hw) h1.1
        rw [hc, hw]
        unfold used
        rw [hc]; rfl
      | wrong =>
        rw [hq] at h1
        simp only at h1 ⊢
        have hc : cmds l = [] := by unfold cmds; rw [h1]
        have hw : wrong l = true := wrong_iff.2 (by rw [h1])
        rw [hc, hw]
        unfold used
        rw [hc]; rfl
      | ok a r =>
        rw [hq] at h1
        simp only at h1 ⊢
        obtain ⟨e1, e2⟩ := h1
        have hpos : 1 ≤ (enc a).length := by simp [enc]
        have hlen : l.length = (enc a).length + r.length := by rw [e1, List.length_append]
        have hi := ih r (by omega)
        have hc : cmds l = a :: cmds r := by rw [e1, cmds_append]; unfold cmds; rw [e2]; rfl
        have hw : wrong l = wrong r := by unfold wrong; rw [e1, run_append, e2]
        have hu : used l = (enc a).length + used r := by unfold used; rw [hc]; simp [encs]
        rw [hi, hc, hw, hu]
        simp only [Prod.mk.injEq, true_and, and_true]
        omega
end Go.Proofs.Ytgjedhdnnfdcgaa.Rp
