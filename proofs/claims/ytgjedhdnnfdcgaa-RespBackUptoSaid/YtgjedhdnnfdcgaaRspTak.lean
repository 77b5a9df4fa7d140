/-
  One byte is taken.
-/
import Derived.Test.YtgjedhdnnfdcgaaRspStp
import Derived.Shelf.Abstract
import Derived.Laws.Tables
namespace Go.Proofs.Ytgjedhdnnfdcgaa.Rp
open Go.RowKit Go.Shelf
open Dg (dec txt)

theorem fidx_enters {s : St} (hb : s ≠ .bad) (args : Array Value) (w : World) : (callFunc (fidx s) args).run Try.prog w = .ok (.enter (fidx s) args) w := by
  cases s with
  | star => exact enters_of Try.func36 (by kernel_rfl) rfl args w
  | many ds => exact enters_of Try.func42 (by kernel_rfl) rfl args w
  | manyCr n => exact enters_of Try.func47 (by kernel_rfl) rfl args w
  | dollar left _ => exact enters_of Try.func50 (by kernel_rfl) rfl args w
  | len left _ ds => exact enters_of Try.func52 (by kernel_rfl) rfl args w
  | lenCr left _ n => exact enters_of Try.func54 (by kernel_rfl) rfl args w
  | body left _ n bs => exact enters_of Try.func55 (by kernel_rfl) rfl args w
  | bodyCr left _ bs => exact enters_of Try.func56 (by kernel_rfl) rfl args w
  | bad => exact absurd rfl hb

section
variable {w w' : World} {pb : Nat} {nx vt va : Value} {tk num cnt : Int} {tx : Bytes} {ar : List Bytes}
theorem take_bad (h : PM w pb .nilFunc tk vt tx num cnt va ar) (c : Int) :
    Calls Try.prog 44 #[.pointer (some ⟨pb, 0, none⟩), .int .u8 c] w fun e w' => e = .returned (.slice none 0 0) ∧ w' = w := by
  have H := Lib.hid h
  clear h
  go_enter Try.func44, Try.ntmps44
  go_wp2_with fail
  refine (bad_calls H.out).mono ?_
  rintro e w1 ⟨rfl, rfl⟩
  go_wp2_with fail
  go_ret
  exact ⟨rfl, rfl⟩

abbrev nilS : Value := .slice none 0 0
theorem zero_pm (w : World) (pb : Nat) (nx : Value) (h : Box w pb 62 (pcs nx 0 nilS 0 0 nilS)) : PM w pb nx 0 nilS [] 0 0 nilS [] := ⟨h, BRow.nil _ _, SRow.nil _ _⟩
theorem put_all {cells old : Array Value} (h : Box w pb 62 old) : Box (w.setRow pb cells) pb 62 cells ∧ Only [pb] w (w.setRow pb cells) :=
  ⟨setRow_heap w pb _ _ _ _ h, ⟨rfl, rfl, rfl, by simp [World.setRow], fun k _ hn => setRow_other w pb k cells (fun e => hn (by simp [e]))⟩⟩
theorem kept_drop {w0 : World} {v1 v2 : Value} (h : Kept (pblk pb vt va) w0 (pblk pb v1 v2) w) (k : Only [pb] w w') : Kept (pblk pb vt va) w0 (pblk pb nilS nilS) w' :=
  ⟨h.1.trans k (fun x hx => .inl (by rw [List.mem_singleton] at hx; subst hx; exact mem_pblk.2 (.inl rfl))), fun x hx => .inl (by
    rcases mem_pblk.1 hx with rfl | e | e
    · exact mem_pblk.2 (.inl rfl)
    · cases e
    · cases e)⟩
theorem nil_one : (pcs .nilFunc 0 nilS 0 0 nilS).all (·.oneCell') = true := by simp [pcs, Value.oneCell']
theorem fresh_one : (pcs (fnv 36) 0 nilS 0 0 nilS).all (·.oneCell') = true := by simp [pcs, Value.oneCell']
theorem parser_size : (Try.prog.info? 62).map (·.size) = some 6 := by kernel_rfl
set_option maxHeartbeats 4000000 in
theorem take_wrong {s : St} (hb : s ≠ .bad) (hok : Ok s) (h : PM w pb (fv s) tk vt tx num cnt va ar) (hl : like s tx num cnt ar) (ht0 : 0 ≤ tk) (ht : tk ≤ 1048576) (c : UInt8) (hst : step s c = (.bad, none)) :
    Calls Try.prog 44 #[.pointer (some ⟨pb, 0, none⟩), .int .u8 (c.toNat : Int)] w fun e w' => e = .returned nilS ∧ PM w' pb .nilFunc 0 nilS [] 0 0 nilS [] ∧ Kept (pblk pb vt va) w (pblk pb nilS nilS) w' := by
  rw [fv_eq hb] at h
  have c0 := h.box.cell 0
  have c1 := h.box.cell 1
  have f1 := h.box.free 1
  simp only [pcs, List.getElem?_toArray, List.getElem?_cons_zero, List.getElem?_cons_succ] at c0 c1
  have hw1 : IntKind.i64.wrap (tk + 1) = tk + 1 := IntWalk.i64_in _ (by omega)
  obtain ⟨P1, o1⟩ := h.put 1 (.int .i64 (tk + 1)) (tk' := tk + 1) rfl
  have d0 := P1.box.cell 0
  simp only [pcs, List.getElem?_toArray, List.getElem?_cons_zero, List.getElem?_cons_succ] at d0
  have H := Lib.hid h
  have HS := Lib.hid (step_calls hb hok P1 hl c)
  have hcf := fidx_enters hb
  have K1 := Lib.hid (kept_pb vt va o1)
  clear h P1 o1
  go_enter Try.func44, Try.ntmps44
  go_wp2_with fail
  refine (wrong_calls H.out _ rfl).mono ?_
  rintro e w1 ⟨rfl, rfl⟩
  go_wp2_with fail
  refine HS.out.mono ?_
  rintro e w2 ⟨vt', va', tx', num', cnt', ar', rfl, P2, K2, A2⟩
  rw [hst] at A2 ⊢
  obtain ⟨A, cap, hva, _⟩ := P2.arg.view
  subst hva
  rw [show fv (St.bad, (none : Option (List Bytes))).1 = .nilFunc from rfl]
  have f0 := P2.box.free 0
  have e0 := P2.box.cell 0
  simp only [pcs, List.getElem?_toArray, List.getElem?_cons_zero, List.getElem?_cons_succ] at e0
  obtain ⟨P3, o3⟩ := P2.put 0 .nilFunc (nx' := .nilFunc) rfl
  have K3 := Lib.hid ((K1.out.trans K2).trans (kept_pb vt' (.slice A (ar'.map bat).length cap) o3))
  have H3 := Lib.hid P3
  have g5 := P3.box.cell 5
  simp only [pcs, List.getElem?_toArray, List.getElem?_cons_zero, List.getElem?_cons_succ] at g5
  clear P3 o3 P2 K2 A2 H HS hcf
  go_wp2_with fail
  refine (bad_calls H3.out).mono ?_
  rintro e w3 ⟨rfl, rfl⟩
  obtain ⟨b4, o4⟩ := put_all (cells := pcs .nilFunc 0 nilS 0 0 nilS) H3.out.box
  have K4 := Lib.hid (kept_drop K3.out o4)
  have H4 := Lib.hid (zero_pm _ _ _ b4)
  have hbx := H3.out.box
  clear b4 o4
  go_wp2_with (refine wpList_store_row rfl 62 _ _ rfl pb (pcs .nilFunc 0 nilS 0 0 nilS) rfl rfl 62 _ hbx parser_size rfl nil_one ?_)
  go_ret
  exact ⟨rfl, H4.out, K4.out⟩
theorem like_open {s : St} (hb : s ≠ .bad) (hok : Ok s) (hl : like s tx num cnt ar) : cnt = 0 ∨ (ar.length : Int) < cnt := by
  cases s with
  | star => exact .inl hl.2.1
  | many ds => exact .inl hl.2.1
  | manyCr n => exact .inl hl.2.1
  | dollar left args => obtain ⟨_, h2, h3⟩ := hl; have := (show Fit left args from hok).1; subst h2 h3; right; omega
  | len left args ds => obtain ⟨_, h2, h3, _⟩ := hl; have := (show Fit left args ∧ _ from hok).1.1; subst h2 h3; right; omega
  | lenCr left args n => obtain ⟨_, h2, h3, _⟩ := hl; have := (show Fit left args ∧ _ from hok).1.1; subst h2 h3; right; omega
  | body left args n bs => obtain ⟨_, h2, h3, _⟩ := hl; have := (show Fit left args ∧ _ from hok).1.1; subst h2 h3; right; omega
  | bodyCr left args bs => obtain ⟨_, h2, h3⟩ := hl; have := (show Fit left args ∧ _ from hok).1.1; subst h2 h3; right; omega
  | bad => exact absurd rfl hb

set_option maxHeartbeats 4000000 in
theorem take_none {s s' : St} (hb : s ≠ .bad) (hok : Ok s) (h : PM w pb (fv s) tk vt tx num cnt va ar) (hl : like s tx num cnt ar) (ht0 : 0 ≤ tk) (ht : tk ≤ 1048576) (c : UInt8) (hst : step s c = (s', none)) (hb' : s' ≠ .bad) :
    Calls Try.prog 44 #[.pointer (some ⟨pb, 0, none⟩), .int .u8 (c.toNat : Int)] w fun e w' => e = .returned nilS ∧ ∃ vt' va' tx' num' cnt' ar', PM w' pb (fv s') (tk + 1) vt' tx' num' cnt' va' ar' ∧ like s' tx' num' cnt' ar' ∧ Kept (pblk pb vt va) w (pblk pb vt' va') w' := by
  have hok' : Ok s' := by
    have := (step_ok hok c).1
    rw [hst] at this
    exact this
  rw [fv_eq hb] at h
  have c0 := h.box.cell 0
  have c1 := h.box.cell 1
  have f1 := h.box.free 1
  simp only [pcs, List.getElem?_toArray, List.getElem?_cons_zero, List.getElem?_cons_succ] at c0 c1
  have hw1 : IntKind.i64.wrap (tk + 1) = tk + 1 := IntWalk.i64_in _ (by omega)
  obtain ⟨P1, o1⟩ := h.put 1 (.int .i64 (tk + 1)) (tk' := tk + 1) rfl
  have d0 := P1.box.cell 0
  simp only [pcs, List.getElem?_toArray, List.getElem?_cons_zero, List.getElem?_cons_succ] at d0
  have H := Lib.hid h
  have HS := Lib.hid (step_calls hb hok P1 hl c)
  have hcf := fidx_enters hb
  have K1 := Lib.hid (kept_pb vt va o1)
  clear h P1 o1
  go_enter Try.func44, Try.ntmps44
  go_wp2_with fail
  refine (wrong_calls H.out _ rfl).mono ?_
  rintro e w1 ⟨rfl, rfl⟩
  go_wp2_with fail
  refine HS.out.mono ?_
  rintro e w2 ⟨vt', va', tx', num', cnt', ar', rfl, P2, K2, A2⟩
  rw [hst] at A2 ⊢
  obtain ⟨A, cap, hva, _⟩ := P2.arg.view
  subst hva
  have A2' : like s' tx' num' cnt' ar' := A2
  rw [show fv (s', (none : Option (List Bytes))).1 = fnv (fidx s') from fv_eq hb']
  have f0 := P2.box.free 0
  have e0 := P2.box.cell 0
  simp only [pcs, List.getElem?_toArray, List.getElem?_cons_zero, List.getElem?_cons_succ] at e0
  obtain ⟨P3, o3⟩ := P2.put 0 (fnv (fidx s')) (nx' := fnv (fidx s')) rfl
  have K3 := Lib.hid ((K1.out.trans K2).trans (kept_pb vt' (.slice A (ar'.map bat).length cap) o3))
  have H3 := Lib.hid P3
  have HF := Lib.hid (show PM _ pb (fv s') _ _ _ _ _ _ _ by rw [fv_eq hb']; exact P3)
  have g5 := P3.box.cell 5
  have g4 := P3.box.cell 4
  simp only [pcs, List.getElem?_toArray, List.getElem?_cons_zero, List.getElem?_cons_succ] at g5 g4
  have HA := Lib.hid A2'
  have hop := like_open hb' hok' A2'
  clear P3 o3 P2 K2 A2 A2' H HS hcf
  go_wp2_with fail
  refine (wrong_calls H3.out _ rfl).mono ?_
  rintro e w3 ⟨rfl, rfl⟩
  by_cases hz : cnt' = 0
  · have z1 : (cnt' == 0) = true := by simp [hz]
    have HZ := Lib.hid hz
    clear hop hz
    go_wp2_with fail
    go_ret
    exact ⟨rfl, _, _, _, _, _, _, HF.out, HA.out, K3.out⟩
  · have z1 : (cnt' == 0) = false := by simpa using hz
    have z2 : decide ((ar'.length : Int) < cnt') = true := decide_eq_true (hop.resolve_left hz)
    clear hop hz
    go_wp2_with fail
    go_ret
    exact ⟨rfl, _, _, _, _, _, _, HF.out, HA.out, K3.out⟩
set_option maxHeartbeats 4000000 in
theorem take_some {s s' : St} {x : List Bytes} (hb : s ≠ .bad) (hok : Ok s) (h : PM w pb (fv s) tk vt tx num cnt va ar) (hl : like s tx num cnt ar) (ht0 : 0 ≤ tk) (ht : tk ≤ 1048576) (c : UInt8) (hst : step s c = (s', some x)) :
    Calls Try.prog 44 #[.pointer (some ⟨pb, 0, none⟩), .int .u8 (c.toNat : Int)] w fun e w' => s' = .star ∧ ∃ g cap, e = .returned (.slice (some ⟨g, 0, none⟩) x.length cap) ∧ SRow w' 0 (.slice (some ⟨g, 0, none⟩) x.length cap) (x.map bat) ∧ PM w' pb (fv .star) 0 nilS [] 0 0 nilS [] ∧ Kept (pblk pb vt va) w (g :: pblk pb nilS nilS) w' ∧ g ≠ pb := by
  have hs' : s' = .star := by
    have h1 : (step s c).2 ≠ none := by rw [hst]; simp
    have h2 : (step s c).1 = .star := by
      unfold step at h1 ⊢
      revert h1
      split <;> (repeat' split) <;> simp
    rw [hst] at h2
    exact h2
  subst hs'
  have hx : 1 ≤ x.length := ((step_ok hok c).2.1 x (by rw [hst])).1
  rw [fv_eq hb] at h
  have c0 := h.box.cell 0
  have c1 := h.box.cell 1
  have f1 := h.box.free 1
  simp only [pcs, List.getElem?_toArray, List.getElem?_cons_zero, List.getElem?_cons_succ] at c0 c1
  have hw1 : IntKind.i64.wrap (tk + 1) = tk + 1 := IntWalk.i64_in _ (by omega)
  obtain ⟨P1, o1⟩ := h.put 1 (.int .i64 (tk + 1)) (tk' := tk + 1) rfl
  have d0 := P1.box.cell 0
  simp only [pcs, List.getElem?_toArray, List.getElem?_cons_zero, List.getElem?_cons_succ] at d0
  have H := Lib.hid h
  have HS := Lib.hid (step_calls hb hok P1 hl c)
  have hcf := fidx_enters hb
  have K1 := Lib.hid (kept_pb vt va o1)
  clear h P1 o1
  go_enter Try.func44, Try.ntmps44
  go_wp2_with fail
  refine (wrong_calls H.out _ rfl).mono ?_
  rintro e w1 ⟨rfl, rfl⟩
  go_wp2_with fail
  refine HS.out.mono ?_
  rintro e w2 ⟨vt', va', tx', num', cnt', ar', rfl, P2, K2, A2⟩
  rw [hst] at A2 ⊢
  obtain ⟨A, cap, hva, _⟩ := P2.arg.view
  subst hva
  obtain ⟨rfl, rfl⟩ := (A2 : ar' = x ∧ cnt' = (x.length : Nat))
  rw [show fv (St.star, some ar').1 = fnv 36 from rfl]
  have f0 := P2.box.free 0
  have e0 := P2.box.cell 0
  simp only [pcs, List.getElem?_toArray, List.getElem?_cons_zero, List.getElem?_cons_succ] at e0
  obtain ⟨P3, o3⟩ := P2.put 0 (fnv 36) (nx' := fnv 36) rfl
  have K3 := Lib.hid ((K1.out.trans K2).trans (kept_pb vt' (.slice A (ar'.map bat).length cap) o3))
  have H3 := Lib.hid P3
  have g5 := P3.box.cell 5
  have g4 := P3.box.cell 4
  simp only [pcs, List.getElem?_toArray, List.getElem?_cons_zero, List.getElem?_cons_succ] at g5 g4
  have z1 : (((ar'.length : Nat) : Int) == 0) = false := by rw [beq_eq_false_iff_ne]; omega
  have z2 : decide ((ar'.length : Int) < ((ar'.length : Nat) : Int)) = false := decide_eq_false (by omega)
  clear P3 o3 P2 K2 H HS hcf
  go_wp2_with fail
  refine (wrong_calls H3.out _ rfl).mono ?_
  rintro e w3 ⟨rfl, rfl⟩
  go_wp2_with fail
  refine (fresh_calls _).mono ?_
  rintro e w4 ⟨rfl, rfl⟩
  have hfa := H3.out.alloc (.cells (pcs (fnv 36) 0 nilS 0 0 nilS) 62)
  have hka : Below (w2.setCell ⟨pb, 0, none⟩ (fnv 36)).heap.size (w2.setCell ⟨pb, 0, none⟩ (fnv 36)) ((w2.setCell ⟨pb, 0, none⟩ (fnv 36)).alloc (.cells (pcs (fnv 36) 0 nilS 0 0 nilS) 62)) := (Below.refl _ _).alloc (Nat.le_refl _) _
  obtain ⟨b4, o4⟩ := put_all (cells := pcs (fnv 36) 0 nilS 0 0 nilS) hfa.box
  have hbx := hfa.box
  obtain ⟨g, cap2, hv2⟩ := SRow.form4 hfa.arg (by intro e; rw [e] at hx; simp at hx)
  injection hv2 with v1 v2 v3
  subst v1 v3
  have hgp : g ≠ pb := fun e => hfa.nap (by rw [e]; rfl)
  have K4 := Lib.hid (show Kept (pblk pb vt va) w1 (g :: pblk pb nilS nilS) _ from by
    have k5 := K3.out.trans (Kept.of_below (own := pblk pb vt' (.slice (some ⟨g, 0, none⟩) (ar'.map bat).length cap)) hka)
    refine ⟨k5.1.trans o4 (fun x hx => .inl (by rw [List.mem_singleton] at hx; subst hx; exact mem_pblk.2 (.inl rfl))), fun x hx => ?_⟩
    rcases List.mem_cons.1 hx with rfl | hx
    · exact k5.2 _ (mem_pblk.2 (.inr (.inr rfl)))
    · rcases mem_pblk.1 hx with rfl | e | e
      · exact .inl (mem_pblk.2 (.inl rfl))
      · cases e
      · cases e)
  have H4 := Lib.hid (zero_pm _ _ _ b4)
  have R4 := Lib.hid (row_only hfa.arg o4 (fun y hy e => by rw [List.mem_singleton] at hy; subst hy; exact hfa.nap e))
  clear b4 o4 hfa hka H3 K3
  go_wp2_with (refine wpList_store_row rfl 62 _ _ rfl pb (pcs (fnv 36) 0 nilS 0 0 nilS) rfl rfl 62 _ hbx parser_size rfl fresh_one ?_)
  go_ret
  refine ⟨trivial, g, cap, rfl, ?_, H4.out, K4.out, hgp⟩
  unfold SRow
  have := R4.out
  rw [List.length_map] at this ⊢
  exact this
end
end Go.Proofs.Ytgjedhdnnfdcgaa.Rp
