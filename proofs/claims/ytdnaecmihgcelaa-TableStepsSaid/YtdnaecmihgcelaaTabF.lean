/-
  What is left when an entry goes; remove.
-/
import Derived.Test.YtdnaecmihgcelaaTabE
namespace Go.Proofs.Ytdnaecmihgcelaa.Tb
open Go.RowKit

def pairs (S : Sm) (ids : List Nat) : List (ByteArray × Int) := ids.map fun i => (S.key i, S.val i)

theorem Seats.congr {M : Nat} {f P : Nat → Nat} {o o' : Nat → Prop} (h : Seats M f P o) (he : ∀ j, o' j ↔ o j) : Seats M f P o' := by
  have : o' = o := funext fun j => propext (he j)
  rw [this]; exact h
theorem Seats.hmc {M : Nat} {f f' P : Nat → Nat} {o : Nat → Prop} (h : Seats M f P o) (he : ∀ j, o j → f' j = f j) : Seats M f' P o :=
  ⟨fun i hi => by rw [he i hi]; exact h.home i hi, h.pos, h.mem, h.has, h.one, fun p hp h0 d hd => by
    have e := he _ (h.mem p hp h0)
    rw [e] at hd ⊢
    exact h.way p hp h0 d hd⟩

theorem Good.remove {S : Sm} {l1 l2 : List Nat} {i : Nat} (g : Good S (l1 ++ i :: l2)) {P1 P2 : Nat → Nat} (s1 : Seats S.M (hm S) P1 (fun j => occ S j ∧ j ≠ i)) (h2 : (i = S.n ∧ P2 = P1) ∨ (i ≠ S.n ∧ ∃ p, p < S.M ∧ P1 p = S.n ∧ P2 = upd P1 p i)) :
    ∃ ids', Good ((((S.leave i).withPl P1)).fill i P2) ids' ∧ pairs ((((S.leave i).withPl P1)).fill i P2) ids' = pairs S (l1 ++ l2) := by
  have hi := (g.mem i).1 (by simp)
  have hr := g.ring.leave g.nd1 g.nd2
  have hnd : (l1 ++ l2).Nodup := by
    refine g.nd.sublist (List.Sublist.append (List.Sublist.refl _) (List.sublist_cons_self _ _))
  have hni : i ∉ l1 ++ l2 := fun hc => by
    have hp : (l1 ++ i :: l2).Perm (i :: (l1 ++ l2)) := List.perm_middle
    exact (List.nodup_cons.1 (hp.nodup_iff.1 g.nd)).1 hc
  have hmem : ∀ j, j ∈ l1 ++ l2 ↔ (1 ≤ j ∧ j ≤ S.n) ∧ j ≠ i := fun j => by
    rw [← g.mem j]
    constructor
    · intro h
      exact ⟨by simp only [List.mem_append, List.mem_cons] at h ⊢; exact h.elim .inl (fun h => .inr (.inr h)), fun e => hni (e ▸ h)⟩
    · rintro ⟨h, hne⟩
      simp only [List.mem_append, List.mem_cons] at h ⊢
      exact h.elim .inl (fun h => h.elim (fun e => absurd e hne) .inr)
  have hhalf := g.half
  have hfits := g.fits
  rcases h2 with ⟨he, rfl⟩ | ⟨he, p, hp, hpn, rfl⟩
  · refine ⟨l1 ++ l2, ?_, ?_⟩
    · have e : ((S.leave i).withPl P2).fill i P2 = ((S.leave i).withPl P2).less := by unfold Sm.fill; rw [if_pos he]
      rw [e]
      refine ⟨hr, hnd, fun j => ?_, fun j a b => g.sums j a (by simp only at b; omega), fun j k a b c d => g.keys j k a (by simp only at b; omega) c (by simp only at d; omega), g.key0, g.val0, s1.congr (fun j => ?_), by simp only; omega, by simp only; omega, g.most⟩
      · rw [hmem]; simp only; omega
      · unfold occ; simp only; omega
    · unfold pairs Sm.fill
      rw [if_pos he]
  · have e : ((S.leave i).withPl P1).fill i (upd P1 p i) = (((((S.leave i).withPl (upd P1 p i)).moveTo i).tie ((S.leave i).old S.n) i).tie i ((S.leave i).new S.n)).less := by unfold Sm.fill; rw [if_neg he]
    rw [e]
    have hn : S.n ∈ l1 ++ l2 := (hmem _).2 ⟨⟨by omega, Nat.le_refl _⟩, Ne.symm he⟩
    obtain ⟨k1, k2, hk⟩ := List.append_of_mem hn
    have n1 : (0 :: (l1 ++ l2)).Nodup := List.nodup_cons.2 ⟨fun h => by have := (hmem 0).1 h; omega, hnd⟩
    have n2 : ((l1 ++ l2) ++ [0]).Nodup := by
      rw [List.nodup_append]
      exact ⟨hnd, by simp, fun a ha b hb => by simp at hb; subst hb; rintro rfl; have := (hmem 0).1 ha; omega⟩
    have hi0 : i ∉ 0 :: (l1 ++ l2) := fun hc => (List.mem_cons.1 hc).elim (fun e => by omega) hni
    rw [hk] at hr n1 n2 hi0
    have hsw := hr.swap n1 n2 hi0 (by omega)
    have hmem2 : ∀ j, j ∈ k1 ++ S.n :: k2 ↔ (1 ≤ j ∧ j ≤ S.n) ∧ j ≠ i := by rw [← hk]; exact hmem
    rw [hk] at hnd hni
    have hnk : S.n ∉ k1 ++ k2 := fun hc => by
      have hp : (k1 ++ S.n :: k2).Perm (S.n :: (k1 ++ k2)) := List.perm_middle
      exact (List.nodup_cons.1 (hp.nodup_iff.1 hnd)).1 hc
    have hik : i ∉ k1 ++ k2 := fun hc => hni (by simp only [List.mem_append, List.mem_cons] at hc ⊢; exact hc.elim .inl (fun h => .inr (.inr h)))
    have sz : (l1 ++ l2) = k1 ++ S.n :: k2 := hk
    have hocn : occ S S.n ∧ S.n ≠ i := ⟨⟨by omega, Nat.le_refl _⟩, Ne.symm he⟩
    have hsm : ∀ j, j ≠ i → upd S.sm i (S.sm S.n) j = S.sm j := fun j hj => upd_ne _ _ hj
    have hs2 : Seats S.M (fun j => home S.M (upd S.sm i (S.sm S.n) j)) (upd P1 p i) (fun j => ((occ S j ∧ j ≠ i) ∧ j ≠ S.n) ∨ j = i) :=
      s1.relabel hp hpn hocn (fun h => h.2 rfl) (by omega) (by simp only [upd_same]; rfl) (fun j hj => by simp only [hsm j hj.2]; rfl)
    refine ⟨k1 ++ i :: k2, ⟨hsw, ?_, fun j => ?_, fun j a b => ?_, fun j k a b c d => ?_, ?_, ?_, hs2.congr (fun j => ?_), by simp only; omega, by simp only; omega, g.most⟩, ?_⟩
    · have hp : (k1 ++ i :: k2).Perm (i :: (k1 ++ k2)) := List.perm_middle
      refine hp.nodup_iff.2 (List.nodup_cons.2 ⟨hik, hnd.sublist (List.Sublist.append (List.Sublist.refl _) (List.sublist_cons_self _ _))⟩)
    · have h3 := hmem2 j
      simp only [List.mem_append, List.mem_cons] at h3 hik hnk ⊢
      by_cases e1 : j = i
      · subst e1
        simp only [true_or, or_true, true_iff]
        omega
      · by_cases e2 : j = S.n
        · subst e2
          simp only [e1, false_or]
          constructor
          · intro h; exact absurd h hnk
          · intro h; omega
        · simp only [e1, e2, false_or] at h3 ⊢
          rw [h3]
          omega
    · simp only at b ⊢
      by_cases e1 : j = i
      · rw [e1]; simp only [upd_same]; exact g.sums _ (by omega) (Nat.le_refl _)
      · simp only [upd_ne _ _ e1]; exact g.sums j a (by omega)
    · simp only at b d
      intro hkey
      simp only at hkey
      by_cases e1 : j = i <;> by_cases e2 : k = i
      · rw [e1, e2]
      · rw [e1] at hkey
        simp only [upd_same, upd_ne _ _ e2] at hkey
        have := g.keys _ _ (by omega) (Nat.le_refl _) c (by omega) hkey
        omega
      · rw [e2] at hkey
        simp only [upd_same, upd_ne _ _ e1] at hkey
        have := g.keys _ _ a (by omega) (by omega) (Nat.le_refl _) hkey
        omega
      · simp only [upd_ne _ _ e1, upd_ne _ _ e2] at hkey
        exact g.keys _ _ a (by omega) c (by omega) hkey
    · show upd S.key i (S.key S.n) 0 = _
      rw [upd_ne _ _ (by omega)]; exact g.key0
    · show upd S.val i (S.val S.n) 0 = _
      rw [upd_ne _ _ (by omega)]; exact g.val0
    · unfold occ; simp only; omega
    · rw [sz]
      unfold pairs
      simp only [List.map_append, List.map_cons, upd_same]
      congr 1
      · refine List.map_congr_left fun j hj => ?_
        have hne : j ≠ i := fun e => hik (by simp [← e, hj])
        simp only [upd_ne _ _ hne]
      · congr 1
        refine List.map_congr_left fun j hj => ?_
        have hne : j ≠ i := fun e => hik (by simp [← e, hj])
        simp only [upd_ne _ _ hne]

end Go.Proofs.Ytdnaecmihgcelaa.Tb
