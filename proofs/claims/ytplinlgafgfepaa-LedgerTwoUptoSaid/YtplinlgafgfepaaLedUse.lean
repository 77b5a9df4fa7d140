/-
  The iterators as values; the first due.
-/
import Derived.Test.YtplinlgafgfepaaLedItr
namespace Go.Proofs.Ytplinlgafgfepaa.Ld
open Go.RowKit Go.Maps Pr Go.Shelf
open Go.Sort (SWO)
attribute [local go_sem] Oper.semAt_some

abbrev o0 (p : Nat) : Obj := .cells #[.pointer (some ⟨p, 0, none⟩)] 65
abbrev o1 (e : Int) : Obj := .cells #[.int .i64 e] 3
abbrev o2 (g : Nat) : Obj := .cells #[.func (.func g) #[] #[]] 89
abbrev seqv (n : Nat) : Value := .func (.func 46) #[] #[.pointer (some ⟨n, 0, none⟩), .pointer (some ⟨n + 1, 0, none⟩), .pointer (some ⟨n + 1 + 1, 0, none⟩)]
theorem sorted_calls (p : Nat) (e : Int) (g : Nat) (w : World) :
    Calls Try.prog 39 #[.pointer (some ⟨p, 0, none⟩), .int .i64 e, .func (.func g) #[] #[]] w fun r w' => r = .returned (seqv w.heap.size) ∧ w' = ((w.alloc (o0 p)).alloc (o1 e)).alloc (o2 g) := by
  go_enter Try.func39, Try.ntmps39
  go_wp2_with fail
  go_ret
  exact ⟨rfl, rfl⟩
theorem until_calls (p : Nat) (e : Int) (w : World) :
    Calls Try.prog 32 #[.pointer (some ⟨p, 0, none⟩), .int .i64 e] w fun r w' => r = .returned (seqv w.heap.size) ∧ w' = ((w.alloc (o0 p)).alloc (o1 e)).alloc (o2 40) := by
  go_enter Try.func32, Try.ntmps32
  go_wp2_with (go_at_call 39; refine (sorted_calls _ _ _ _).mono ?_; rintro r w1 ⟨rfl, rfl⟩)
  go_ret
  exact ⟨rfl, rfl⟩
theorem all_calls (p : Nat) (w : World) :
    Calls Try.prog 34 #[.pointer (some ⟨p, 0, none⟩)] w fun r w' => r = .returned (seqv w.heap.size) ∧ w' = ((w.alloc (o0 p)).alloc (o1 9007199254740992)).alloc (o2 44) := by
  go_enter Try.func34, Try.ntmps34
  go_wp2_with (go_at_call 39; refine (sorted_calls _ _ _ _).mono ?_; rintro r w1 ⟨rfl, rfl⟩)
  go_ret
  exact ⟨rfl, rfl⟩

theorem seq_world (w : World) (p : Nat) (e : Int) (g : Nat) : Below w.heap.size w (((w.alloc (o0 p)).alloc (o1 e)).alloc (o2 g)) ∧ Box (((w.alloc (o0 p)).alloc (o1 e)).alloc (o2 g)) w.heap.size 65 #[.pointer (some ⟨p, 0, none⟩)] ∧
    Box (((w.alloc (o0 p)).alloc (o1 e)).alloc (o2 g)) (w.heap.size + 1) 3 #[.int .i64 e] ∧ Box (((w.alloc (o0 p)).alloc (o1 e)).alloc (o2 g)) (w.heap.size + 1 + 1) 89 #[.func (.func g) #[] #[]] := by
  refine ⟨(((Below.refl _ _).alloc (Nat.le_refl _) _).alloc (by simp) _).alloc (by simp; omega) _, ((Box.new w _ _).alloc _).alloc _, (Box.new1 w _ _ _).alloc _, ?_⟩
  have := Box.new ((w.alloc (o0 p)).alloc (o1 e)) 89 #[.func (.func g) #[] #[]]
  simpa using this

section
variable {w w' : World} {own : List Nat} {v p m last : Nat} {L : LL (List Lim)} {bl : Nat → Nat} {rs : List Nat} {D : Dt}
theorem gone_due {last : Nat} {L : LL (List Lim)} (e : Nat) : ((due L e).map (·.1)).length = (gone L e).length := by
  unfold gone due
  rw [List.length_map, List.length_map]
  exact ((srt_perm L).filter _).length_eq
theorem until_each (h : In w own v p m last L bl rs D) (e : Nat) (n : Nat) (hn : 2 ≤ n) :
    Each Fence.wide n Try.prog 46 #[.pointer (some ⟨w.heap.size, 0, none⟩), .pointer (some ⟨w.heap.size + 1, 0, none⟩), .pointer (some ⟨w.heap.size + 1 + 1, 0, none⟩)] (yv L)
      (Fr (((w.alloc (o0 p)).alloc (o1 (e : Nat))).alloc (o2 40)).heap.size L ((due L e).map (·.1))) (fun xs => xs.map (·.1) = (due L e).map (·.1)) (fun ow => ∀ r ∈ rs, r ∉ ow) (((w.alloc (o0 p)).alloc (o1 (e : Nat))).alloc (o2 40)) := by
  obtain ⟨hb, b0, b1, b2⟩ := seq_world w p (e : Nat) 40
  refine sorted_each (h.below hb) e _ _ _ _ b0 b1 b2 _ (fun id hid => ?_) (fun ids g cap W hp hd => ?_) (gone_due (last := last) e) n hn
  · obtain ⟨x, hx, rfl⟩ := List.mem_map.1 hid
    exact ⟨x, (mem_due.1 hx).1, rfl⟩
  · rw [← sorted_due h.good e hp]
    refine sort_calls (swoT L) (totT L) L bl _ (enters_of Try.func40 (by kernel_rfl) rfl) (fun x y W => byTill_calls _ _ _ _ _ _ _ _ _ _ W) g cap ids W hd ?_
    rw [hp.length_eq]
    unfold gone
    rw [List.length_map]
    exact Nat.le_trans (List.length_filter_le _ _) h.good.few
theorem all_each (h : In w own v p m last L bl rs D) (n : Nat) (hn : 2 ≤ n) :
    Each Fence.wide n Try.prog 46 #[.pointer (some ⟨w.heap.size, 0, none⟩), .pointer (some ⟨w.heap.size + 1, 0, none⟩), .pointer (some ⟨w.heap.size + 1 + 1, 0, none⟩)] (yv L)
      (Fr (((w.alloc (o0 p)).alloc (o1 9007199254740992)).alloc (o2 44)).heap.size L (L.map (·.1))) (fun xs => xs.map (·.1) = L.map (·.1)) (fun ow => ∀ r ∈ rs, r ∉ ow) (((w.alloc (o0 p)).alloc (o1 9007199254740992)).alloc (o2 44)) := by
  obtain ⟨hb, b0, b1, b2⟩ := seq_world w p 9007199254740992 44
  have hl : (L.map (·.1)).length = (gone L 9007199254740992).length := by
    unfold gone
    rw [List.length_map, List.length_map]
    congr 1
    exact (List.filter_eq_self.2 fun x hx => by simpa using (h.good.fits x hx).2.2).symm
  refine sorted_each (h.below hb) 9007199254740992 _ _ _ _ b0 b1 b2 _ (fun id hid => ?_) (fun ids g cap W hp hd => ?_) hl n hn
  · obtain ⟨x, hx, rfl⟩ := List.mem_map.1 hid
    exact ⟨x, hx, rfl⟩
  · rw [← sorted_all h.good hp]
    refine sort_calls swoI totI L bl _ (enters_of Try.func44 (by kernel_rfl) rfl) (fun x y W => byId_calls _ _ _ _ _ _ _ _ _ _ W) g cap ids W hd ?_
    rw [hp.length_eq]
    unfold gone
    rw [List.length_map]
    exact Nat.le_trans (List.length_filter_le _ _) h.good.few
end
end Go.Proofs.Ytplinlgafgfepaa.Ld
