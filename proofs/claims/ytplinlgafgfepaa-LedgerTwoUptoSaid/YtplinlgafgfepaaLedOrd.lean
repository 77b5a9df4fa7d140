/-
  The two comparisons order numbers; what is sorted by them is what is due, or all.
-/
import Derived.Test.YtplinlgafgfepaaLedSrt
namespace Go.Proofs.Ytplinlgafgfepaa.Ld
open Go.RowKit Go.Maps Pr Go.Sort Go.Shelf
open Go.Lib (compareInt)

def cfI (a b : Nat) : Int := compareInt (a : Nat) (b : Nat)
def cfT (L : LL (List Lim)) (a b : Nat) : Int := orI (compareInt ((fnd L a).2.1 : Nat) ((fnd L b).2.1 : Nat)) (compareInt (a : Nat) (b : Nat))
theorem cmp_lt (a b : Nat) : compareInt (a : Nat) (b : Nat) = if a < b then -1 else if b < a then 1 else 0 := by
  unfold compareInt
  by_cases h1 : a < b
  · rw [if_pos h1, if_pos (by omega)]
  · rw [if_neg h1, if_neg (by omega)]
    by_cases h2 : b < a
    · rw [if_pos h2, if_pos (by omega)]
    · rw [if_neg h2, if_neg (by omega)]
theorem ltI (a b : Nat) : ltOf cfI a b = decide (a < b) := by
  unfold ltOf cfI
  rw [cmp_lt]
  by_cases h1 : a < b
  · simp [h1]
  · by_cases h2 : b < a <;> simp [h1, h2]
theorem ltT (L : LL (List Lim)) (a b : Nat) : ltOf (cfT L) a b = decide ((fnd L a).2.1 < (fnd L b).2.1 ∨ (fnd L a).2.1 = (fnd L b).2.1 ∧ a < b) := by
  unfold ltOf cfT orI
  rw [cmp_lt, cmp_lt]
  generalize (fnd L a).2.1 = s
  generalize (fnd L b).2.1 = t
  refine decide_eq_decide.2 ?_
  by_cases h1 : s < t
  · simp [h1]
  · by_cases h2 : t < s
    · simp [h1, h2]; omega
    · have : s = t := by omega
      subst this
      by_cases h3 : a < b
      · simp [h3]
      · by_cases h4 : b < a <;> simp [h3, h4]
theorem swoI : SWO (ltOf cfI) where
  irrefl x := by rw [ltI]; simp
  trans x y z h1 h2 := by rw [ltI] at *; simp at *; omega
  ntrans x y z h1 h2 := by rw [ltI] at *; simp at *; omega
theorem swoT (L : LL (List Lim)) : SWO (ltOf (cfT L)) where
  irrefl x := by rw [ltT]; simp
  trans x y z h1 h2 := by rw [ltT] at *; simp at *; omega
  ntrans x y z h1 h2 := by rw [ltT] at *; simp at *; omega
theorem totI (x y : Nat) (h1 : ltOf cfI x y = false) (h2 : ltOf cfI y x = false) : x = y := by rw [ltI] at *; simp at *; omega
theorem totT (L : LL (List Lim)) (x y : Nat) (h1 : ltOf (cfT L) x y = false) (h2 : ltOf (cfT L) y x = false) : x = y := by rw [ltT] at *; simp at *; omega

/-- the numbers of those that are due till e -/
def gone (L : LL (List Lim)) (e : Nat) : List Nat := (L.filter fun x => decide (x.2.1 ≤ e)).map (·.1)
theorem sort_unique {cf : Nat → Nat → Int} (hO : SWO (ltOf cf)) (hT : ∀ x y, ltOf cf x y = false → ltOf cf y x = false → x = y) {a b : List Nat} (hp : a.Perm b) (hb : b.Pairwise fun x y => ltOf cf y x = false) : a.mergeSort (fun x y => !ltOf cf y x) = b := by
  have tr : ∀ x y z : Nat, (!ltOf cf y x) = true → (!ltOf cf z y) = true → (!ltOf cf z x) = true := fun x y z h1 h2 => by
    simp only [Bool.not_eq_true'] at *
    exact hO.ntrans z y x h2 h1
  have tot : ∀ x y : Nat, ((!ltOf cf y x) || (!ltOf cf x y)) = true := fun x y => by
    cases h1 : ltOf cf y x with
    | false => rfl
    | true =>
      cases h2 : ltOf cf x y with
      | false => rfl
      | true =>
        have := hO.trans x y x h2 h1
        rw [hO.irrefl] at this
        cases this
  refine List.Perm.eq_of_pairwise (le := fun x y => (!ltOf cf y x) = true) (fun x y _ _ h1 h2 => ?_) (List.pairwise_mergeSort tr tot a) (hb.imp fun h => by simpa using h) ((List.mergeSort_perm a _).trans hp)
  simp only [Bool.not_eq_true'] at h1 h2
  exact hT x y h2 h1
theorem sorted_due {last : Nat} {L : LL (List Lim)} (h : Good last L) (e : Nat) {ids : List Nat} (hp : ids.Perm (gone L e)) : ids.mergeSort (fun x y => !ltOf (cfT L) y x) = (due L e).map (·.1) := by
  refine sort_unique (swoT L) (totT L) (hp.trans (((srt_perm L).symm.filter _).map _)) (List.pairwise_map.2 ((due_sorted h e).imp_of_mem fun {x y} hx hy hl => ?_))
  rw [ltT, fnd_is h (mem_due.1 hx).1, fnd_is h (mem_due.1 hy).1]
  unfold Lt at hl
  simp
  omega
theorem sorted_all {last : Nat} {L : LL (List Lim)} (h : Good last L) {ids : List Nat} (hp : ids.Perm (gone L 9007199254740992)) : ids.mergeSort (fun x y => !ltOf cfI y x) = L.map (·.1) := by
  have e : gone L 9007199254740992 = L.map (·.1) := by
    unfold gone
    congr 1
    rw [List.filter_eq_self]
    intro x hx
    simpa using (h.fits x hx).2.2
  rw [e] at hp
  refine sort_unique swoI totI hp (List.pairwise_map.2 (h.rise.imp fun {x y} hl => ?_))
  rw [ltI]
  simp
  omega
end Go.Proofs.Ytplinlgafgfepaa.Ld
