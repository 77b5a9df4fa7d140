/-
  reply.Decode: a little of what is there, and more where that is too short.
-/
import Derived.Test.YtflmolhkbpicbaaDoorKRpyFsi
namespace Go.Proofs.YtflmolhkbpicbaaDoor
open Go.RowKit
namespace Ry

set_option maxRecDepth 100000 in
theorem dec_pre {l : Bytes} {k : Nat} : (∀ v r, decR (l.take k) = .ok v r → decR l = .ok v (r ++ l.drop k)) ∧ (∀ e, decR (l.take k) = .err e → (e = 8 ∨ e = 9) ∧ (e = 9 → decR l = .err 9)) := by
  have := dec_mono (l.take k) (l.drop k)
  rw [List.take_append_drop] at this
  exact this
set_option maxRecDepth 100000 in
theorem zero_tab (w : World) : zero.k = 1 ∨ zero.k = 2 → Tb w := fun q => by rcases q with q | q <;> cases q
set_option maxRecDepth 100000 in
theorem no_texts' {w : World} {A : Option Addr} {c : Nat} (w' : World) (_h : Rd4 w zero A c) : Texts w' A (zero.l.map bat) := fun i hi => absurd hi (Nat.not_lt_zero i)

set_option maxRecDepth 100000 in
set_option maxHeartbeats 4000000 in
theorem decode_some (a : Addr) (cap : Nat) (l : Bytes) (w : World) (hA : Bts w (some a) l) (hcap : l.length ≤ cap) (hl : l.length ≤ 65000) (hT : Tb w) :
    Calls Tryd.prog 19 #[.slice (some a) l.length cap] w fun e w' => YDecB (decR l) l.length w.heap.size e w' ∧ Below w.heap.size w w' := by
  have HA := Lib.hid hA
  have HT := Lib.hid hT
  have HW := Lib.hid ((Below.refl w.heap.size w).alloc (Nat.le_refl _) (.cells z4 25))
  have HX := Lib.hid (Box.new w 25 z4)
  clear hA hT
  obtain ⟨m, hm⟩ : ∃ m : Nat, m = min 64 l.length := ⟨_, rfl⟩
  have hmi : min (64 : Int) (l.length : Int) = (m : Int) := by omega
  go_enter Tryd.func19, Tryd.ntmps19
  go_wp2
  go_loopg [5] (l.length - min 64 l.length) (fun g v wr => ∃ k : Nat, v = .int .i64 k ∧ k ≤ l.length ∧ (k < l.length → 1 ≤ k) ∧ g = l.length - k ∧ Below w.heap.size w wr ∧ Box wr w.heap.size 25 z4)
  case atStart => exact ⟨min 64 l.length, rfl, by omega, by omega, rfl, HW.out, HX.out⟩
  case round =>
    obtain ⟨k, rfl, hk, hk1, hg, hbw, hbx⟩ := hrel
    have HB := Lib.hid hbw
    have X1 := Lib.hid hbx
    clear hbw hbx HW HX hm hmi
    have hkz : (k : Int) ≤ (cap : Int) := by omega
    have hk0 : (0 : Int) ≤ (k : Int) := by omega
    have g0 : (convert 32 9 (.slice (some a) k cap)).run Tryd.prog wr = .ok (.string (bat (l.take k))) wr := by
      have := conv_bts (HA.out.keep HB.out) 0 k cap (by omega)
      have e : a.add 0 = a := by unfold Addr.add; rfl
      rw [e, List.drop_zero] at this
      exact this
    have hlt : (l.take k).length = k := by rw [List.length_take]; omega
    have hbs : (bat (l.take k)).size = k := by rw [bat_size, hlt]
    have HF := Lib.hid (first_own (bat (l.take k)) wr (by omega) (HT.out.keep HB.out))
    rw [show (bat (l.take k)).data.toList = l.take k from rfl, hbs] at HF
    obtain ⟨hm1, hm2⟩ := dec_pre (l := l) (k := k)
    cases hR : decR (l.take k) with
    | ok v r =>
      rw [hR] at HF
      have hD := hm1 v r hR
      have hrl : r.length < k := by have := dec_len hR; rwa [hlt] at this
      clear hm1 hm2 hR hbs
      go_wp2_with fail
      refine HF.out.mono ?_
      rintro x w2 ⟨⟨A1, c1, rfl, hrow⟩, hb2⟩
      have HB2 := Lib.hid (HB.out.trans (hb2.mono HB.out.size))
      have X2 := Lib.hid (X1.out.keep hb2)
      have HRW := Lib.hid (SRow.lower hrow HB.out.size)
      have hwr := X1.out.lt
      have HD := Lib.hid hD
      have HRL := Lib.hid hrl
      clear hb2 hrow X1 HB g0 hD hrl
      have q8 : ((0 : Int) != 8) = true := rfl
      go_wp2_with (refine wpList_store_only rfl 25 _ _ rfl w2.heap.size _ rfl rfl _ (Box.new w2 _ z4) r_size rfl (by simp [Value.oneCell']) ?_)
      intro w3 p3 k3
      have P3 := Lib.hid p3
      have hne3 : w.heap.size ∉ [w2.heap.size] := by have := X2.out.lt; simp; omega
      have hn3 : ¬ (w2.heap.size = w.heap.size) := by have := X2.out.lt; omega
      have hn4 : ¬ (w.heap.size = w2.heap.size) := by have := X2.out.lt; omega
      have HB3 := Lib.hid (k3.below (HB2.out.alloc HB2.out.size (.cells z4 25)) (fun x hx => by simp at hx; have := HB2.out.size; omega) (by have := HB2.out.size; simp; omega))
      have X3 := Lib.hid (box_only (Box.alloc X2.out _) k3 hne3)
      have HK3 : Hid (Only [w.heap.size] w2 w3) := Lib.hid (((Only.refl [w.heap.size] w2).alloc (.cells z4 25)).trans k3 (fun x hx => by simp at hx; right; omega))
      have HR3 := Lib.hid (row_only (SRow.alloc HRW.out _) k3 (fun x hx => by rw [List.mem_singleton] at hx; subst hx; exact row_box (SRow.alloc HRW.out _) (Box.new w2 25 z4) (by decide)))
      clear p3 k3
      have cc0 := P3.out.cell 0
      have cc1 := P3.out.cell 1
      have cc2 := P3.out.cell 2
      have cc3 := P3.out.cell 3
      simp only [List.getElem?_toArray, List.getElem?_cons_zero, List.getElem?_cons_succ] at cc0 cc1 cc2 cc3
      go_wp2_with (refine wpList_store_only rfl 25 _ _ rfl w.heap.size _ rfl rfl _ X3.out r_size rfl (by simp [Value.oneCell']) ?_)
      intro w4 p4 k4
      have P4 := Lib.hid p4
      have HB4 := Lib.hid (k4.below HB3.out (fun x hx => by simp at hx; omega) HB3.out.size)
      have HK4 := Lib.hid (HK3.out.also (k4.mono (own2 := [w.heap.size]) (fun x hx => Or.inl hx)))
      have HR4 : Hid (SRow w4 w.heap.size (.slice A1 v.l.length c1) (v.l.map bat)) := Lib.hid (row_only HR3.out k4 (fun x hx => by rw [List.mem_singleton] at hx; subst hx; exact row_box HR3.out X3.out (by decide)))
      clear p4 k4
      go_wp2_with fail
      refine ret_r3 Tryd.results19 rfl rfl rfl rfl P4.out ?_
      refine ⟨?_, HB4.out⟩
      rw [HD.out]
      refine ⟨A1, c1, ?_, HR4.out⟩
      have e9 : l.length - (r ++ l.drop k).length = k - r.length := by rw [List.length_append, List.length_drop]; omega
      rw [e9]; rfl
    | err e =>
      obtain ⟨h89, hd9⟩ := hm2 e hR
      rw [hR] at HF
      have HR := Lib.hid hR
      clear hm1 hm2 hbs hR
      go_wp2_with fail
      refine HF.out.mono ?_
      rintro x w2 ⟨⟨A1, c1, rfl, hrd⟩, hb2⟩
      have HB2 := Lib.hid (HB.out.trans (hb2.mono HB.out.size))
      have X2 := Lib.hid (X1.out.keep hb2)
      have HRD := Lib.hid hrd
      clear hb2 hrd X1 HB g0
      by_cases h9 : e = 9
      · have HD := Lib.hid (hd9 h9)
        subst h9
        clear hd9 h89
        have q8 : ((9 : Int) != 8) = true := rfl
        go_wp2_with (refine wpList_store_only rfl 25 _ _ rfl w2.heap.size _ rfl rfl _ (Box.new w2 _ z4) r_size rfl (by simp [Value.oneCell']) ?_)
        intro w3 p3 k3
        have P3 := Lib.hid p3
        have hne3 : w.heap.size ∉ [w2.heap.size] := by have := X2.out.lt; simp; omega
        have hn3 : ¬ (w2.heap.size = w.heap.size) := by have := X2.out.lt; omega
        have hn4 : ¬ (w.heap.size = w2.heap.size) := by have := X2.out.lt; omega
        have HB3 := Lib.hid (k3.below (HB2.out.alloc HB2.out.size (.cells z4 25)) (fun x hx => by simp at hx; have := HB2.out.size; omega) (by have := HB2.out.size; simp; omega))
        have X3 := Lib.hid (box_only (Box.alloc X2.out _) k3 hne3)
        have HK3 : Hid (Only [w.heap.size] w2 w3) := Lib.hid (((Only.refl [w.heap.size] w2).alloc (.cells z4 25)).trans k3 (fun x hx => by simp at hx; right; omega))
        clear p3 k3
        have cc0 := P3.out.cell 0
        have cc1 := P3.out.cell 1
        have cc2 := P3.out.cell 2
        have cc3 := P3.out.cell 3
        simp only [List.getElem?_toArray, List.getElem?_cons_zero, List.getElem?_cons_succ] at cc0 cc1 cc2 cc3
        go_wp2_with (refine wpList_store_only rfl 25 _ _ rfl w.heap.size _ rfl rfl _ X3.out r_size rfl (by simp [Value.oneCell']) ?_)
        intro w4 p4 k4
        have P4 := Lib.hid p4
        have HB4 := Lib.hid (k4.below HB3.out (fun x hx => by simp at hx; omega) HB3.out.size)
        have HK4 := Lib.hid (HK3.out.also (k4.mono (own2 := [w.heap.size]) (fun x hx => Or.inl hx)))
        clear p4 k4
        go_wp2_with fail
        refine ret_r3 Tryd.results19 rfl rfl rfl rfl P4.out ?_
        refine ⟨?_, HB4.out⟩
        rw [HD.out]
        exact ⟨A1, c1, rfl, no_texts' _ HRD.out, HRD.out.le, HRD.out.nil, zero_tab _⟩
      · obtain rfl : e = 8 := by omega
        clear hd9 h89 h9
        have q8 : ((8 : Int) != 8) = false := rfl
        by_cases hkl : k = l.length
        · have HD : Hid (decR l = .err 8) := Lib.hid (by have := HR.out; rw [hkl, List.take_length] at this; exact this)
          have qk : ((k : Int) == (l.length : Int)) = true := by simp; omega
          go_wp2_with (refine wpList_store_only rfl 25 _ _ rfl w2.heap.size _ rfl rfl _ (Box.new w2 _ z4) r_size rfl (by simp [Value.oneCell']) ?_)
          intro w3 p3 k3
          have P3 := Lib.hid p3
          have hne3 : w.heap.size ∉ [w2.heap.size] := by have := X2.out.lt; simp; omega
          have hn3 : ¬ (w2.heap.size = w.heap.size) := by have := X2.out.lt; omega
          have hn4 : ¬ (w.heap.size = w2.heap.size) := by have := X2.out.lt; omega
          have HB3 := Lib.hid (k3.below (HB2.out.alloc HB2.out.size (.cells z4 25)) (fun x hx => by simp at hx; have := HB2.out.size; omega) (by have := HB2.out.size; simp; omega))
          have X3 := Lib.hid (box_only (Box.alloc X2.out _) k3 hne3)
          have HK3 : Hid (Only [w.heap.size] w2 w3) := Lib.hid (((Only.refl [w.heap.size] w2).alloc (.cells z4 25)).trans k3 (fun x hx => by simp at hx; right; omega))
          clear p3 k3
          have cc0 := P3.out.cell 0
          have cc1 := P3.out.cell 1
          have cc2 := P3.out.cell 2
          have cc3 := P3.out.cell 3
          simp only [List.getElem?_toArray, List.getElem?_cons_zero, List.getElem?_cons_succ] at cc0 cc1 cc2 cc3
          go_wp2_with (refine wpList_store_only rfl 25 _ _ rfl w.heap.size _ rfl rfl _ X3.out r_size rfl (by simp [Value.oneCell']) ?_)
          intro w4 p4 k4
          have P4 := Lib.hid p4
          have HB4 := Lib.hid (k4.below HB3.out (fun x hx => by simp at hx; omega) HB3.out.size)
          have HK4 := Lib.hid (HK3.out.also (k4.mono (own2 := [w.heap.size]) (fun x hx => Or.inl hx)))
          clear p4 k4
          go_wp2_with fail
          refine ret_r3 Tryd.results19 rfl rfl rfl rfl P4.out ?_
          refine ⟨?_, HB4.out⟩
          rw [HD.out]
          exact ⟨A1, c1, rfl, no_texts' _ HRD.out, HRD.out.le, HRD.out.nil, zero_tab _⟩
        · have qk : ((k : Int) == (l.length : Int)) = false := by simp; omega
          obtain ⟨m, hm⟩ : ∃ m : Nat, m = min (2 * k) l.length := ⟨_, rfl⟩
          have hmi : min (2 * (k : Int)) (l.length : Int) = (m : Int) := by omega
          go_wp2_with (refine wpList_store_only rfl 25 _ _ rfl w2.heap.size _ rfl rfl _ (Box.new w2 _ z4) r_size rfl (by simp [Value.oneCell']) ?_)
          intro w3 p3 k3
          have P3 := Lib.hid p3
          have hne3 : w.heap.size ∉ [w2.heap.size] := by have := X2.out.lt; simp; omega
          have hn3 : ¬ (w2.heap.size = w.heap.size) := by have := X2.out.lt; omega
          have hn4 : ¬ (w.heap.size = w2.heap.size) := by have := X2.out.lt; omega
          have HB3 := Lib.hid (k3.below (HB2.out.alloc HB2.out.size (.cells z4 25)) (fun x hx => by simp at hx; have := HB2.out.size; omega) (by have := HB2.out.size; simp; omega))
          have X3 := Lib.hid (box_only (Box.alloc X2.out _) k3 hne3)
          have HK3 : Hid (Only [w.heap.size] w2 w3) := Lib.hid (((Only.refl [w.heap.size] w2).alloc (.cells z4 25)).trans k3 (fun x hx => by simp at hx; right; omega))
          clear p3 k3
          go_wp2
          go_roundg (l.length - m)
          case measure => omega
          case rel => exact ⟨m, by first | rfl | (congr 1; omega) | (simp; omega), by omega, by omega, rfl, HB3.out, X3.out⟩
end Ry
end Go.Proofs.YtflmolhkbpicbaaDoor
