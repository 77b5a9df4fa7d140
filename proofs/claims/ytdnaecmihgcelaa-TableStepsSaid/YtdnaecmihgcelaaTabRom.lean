/-
  The walk of TableRoom.
-/
import Derived.Test.YtdnaecmihgcelaaTabKps
import Derived.Deep.DeepCutAuto
namespace Go.Proofs.Ytdnaecmihgcelaa.Tb
open Go.RowKit

theorem del_has (l : PL) (key : ByteArray) : has (del l key) key = false := by
  rw [has_false]
  intro e he
  have := (List.mem_filter.1 he).2
  simpa using this
theorem put_facts {room : Nat} {l : PL} {key : ByteArray} {v : Int} (h : (put room l key v).2 = true) : ∃ pre, (put room l key v).1 = pre ++ [(key, v)] ∧ has (put room l key v).1 key = true ∧ getv (put room l key v).1 key = v := by
  unfold put at h ⊢
  by_cases h1 : has l key = true
  · rw [if_pos h1] at h ⊢
    exact ⟨_, rfl, has_new, getv_split (a := del l key) (b := []) (has_false.1 (del_has l key))⟩
  · rw [if_neg h1] at h ⊢
    by_cases h2 : l.length < room
    · rw [if_pos h2] at h ⊢
      have h3 : has l key = false := by simpa using h1
      exact ⟨_, rfl, has_new, getv_split (a := l) (b := []) (has_false.1 h3)⟩
    · rw [if_neg h2] at h
      cases h
theorem room_facts (room : Nat) (l : PL) (kd : Int) (ky : ByteArray) (nn : Int) :
    (kd = 1 → (stepL room l (kd, ky, nn)).2.2 = true → has (stepL room l (kd, ky, nn)).1 ky = true ∧ getv (stepL room l (kd, ky, nn)).1 ky = nn) ∧
    (kd = 3 → has (stepL room l (kd, ky, nn)).1 ky = false) ∧
    ((kd = 1 ∨ kd = 2) → (stepL room l (kd, ky, nn)).2.2 = true → ∃ pre v, (stepL room l (kd, ky, nn)).1 = pre ++ [(ky, v)]) := by
  refine ⟨?_, ?_, ?_⟩
  · rintro rfl h
    obtain ⟨pre, h1, h2, h3⟩ := put_facts (room := room) (l := l) (key := ky) (v := nn) h
    exact ⟨h2, h3⟩
  · rintro rfl
    exact del_has l ky
  · rintro (rfl | rfl) h
    · obtain ⟨pre, h1, h2, h3⟩ := put_facts (room := room) (l := l) (key := ky) (v := nn) h
      exact ⟨pre, nn, h1⟩
    · have h1 : has l ky = true := h
      refine ⟨del l ky, getv l ky, ?_⟩
      show get l ky = _
      unfold get
      rw [if_pos h1]
theorem nxt_at {l : PL} (hn : (l.map (·.1)).Nodup) {j : Nat} (hj : j < l.length) : nxt l l[j].1 = if h : j + 1 < l.length then (l[j + 1].1, true) else (⟨#[]⟩, false) := by
  have hs : l = l.take j ++ (l[j].1, l[j].2) :: l.drop (j + 1) := by
    conv => lhs; rw [← List.take_append_drop j l]
    rw [List.drop_eq_getElem_cons hj]
  have hpre : ∀ e ∈ l.take j, ¬ e.1 = l[j].1 := fun e he hk => by
    obtain ⟨i, hi, rfl⟩ := List.getElem_of_mem he
    rw [List.length_take] at hi
    rw [List.getElem_take] at hk
    have hpw := List.pairwise_iff_getElem.1 hn i j (by rw [List.length_map]; omega) (by rw [List.length_map]; omega) (by omega)
    rw [List.getElem_map, List.getElem_map] at hpw
    exact hpw hk
  have := nxt_split (key := l[j].1) (v := l[j].2) (b := l.drop (j + 1)) hpre
  rw [← hs] at this
  rw [this]
  by_cases h : j + 1 < l.length
  · rw [dif_pos h, List.drop_eq_getElem_cons h]
  · rw [dif_neg h, List.drop_eq_nil_of_le (by omega)]

theorem add_succ (a : Addr) (n : Nat) : a.add (n + 1) = ⟨a.block, a.off + (n + 1), none⟩ := by
  unfold Addr.add
  rw [if_neg (by omega)]
def DoBox (w : World) (b : Nat) (d : Act) : Prop := w.heap[b]? = some (.cells #[.int .i64 d.1, .string d.2.1, .int .i64 d.2.2] 34 (0, 0))
theorem DoBox.far {w w' : World} {b : Nat} {d : Act} (h : DoBox w b d) (hf : Far w w') : DoBox w' b d := hf _ _ _ _ h (by decide)
theorem DoBox.cell {w : World} {b : Nat} {d : Act} (h : DoBox w b d) (i : Nat) : w.cell? ⟨b, i, none⟩ = (#[Value.int .i64 d.1, .string d.2.1, .int .i64 d.2.2] : Array Value)[i]? := cell_of_row _ _ _ _ _ _ h

set_option maxRecDepth 100000 in
set_option maxHeartbeats 4000000 in
theorem room_law (R : Nat) (hR : R < 256) (A : Option Addr) (cap : Nat) (L : List Act) (w : World) (hD : Dos w A L) (hK : Keyed L) (hZ : L.length ≤ maxLen) :
    Calls Try.prog 4 #[.int .u8 (R : Nat), .slice A L.length cap] w fun e w' => e = .returned (.bool true) ∧ Below w.heap.size w w' := by
  have hZ2 : L.length ≤ 9223372036854775807 := by unfold maxLen at hZ; omega
  have CL := Lib.hid (show clipR (R : Int) = R by unfold clipR; omega)
  clear hZ
  by_cases h60 : 60 < L.length
  · have t1 : decide ((60 : Int) < (L.length : Int)) = true := decide_eq_true (by omega)
    clear hD hK
    go_enter Try.func4, Try.ntmps4
    go_wp2_with fail
    refine (known_calls _).mono ?_
    rintro e w8 ⟨rfl, hb8⟩
    go_wp2_with fail
    go_ret
    exact ⟨rfl, hb8⟩
  · have t1 : decide ((60 : Int) < (L.length : Int)) = false := decide_eq_false (by omega)
    have HD := Lib.hid hD
    have HK := Lib.hid hK
    clear hD hK
    go_enter Try.func4, Try.ntmps4
    go_wp2_with fail
    refine (Long_calls A cap L w HD.out (by omega)).mono ?_
    rintro e w1 ⟨⟨m, rfl⟩, hb1⟩
    have B1 := Lib.hid hb1
    clear hb1
    by_cases h8 : 800 < m
    · go_wp2_with fail
      refine (known_calls _).mono ?_
      rintro e w8 ⟨rfl, hb8⟩
      go_wp2_with fail
      go_ret
      exact ⟨rfl, B1.out.trans (hb8.mono B1.out.size)⟩
    · go_wp2_with fail
      refine (mNew (R : Int) (by omega) B1.out).mono ?_
      rintro e w2 ⟨t, rfl, h2, -⟩
      rw [CL.out] at h2
      have H2 := Lib.hid h2
      clear h2 B1
      go_wp2_with fail
      go_loopw [6] (fun i wr => ∃ k : Nat, k ≤ L.length ∧ i = .int .i64 (k : Nat) ∧ Hid (∃ p, Mine w wr t R p ∧ Sized p)) (fun i _ => L.length - (intOf i).toNat)
      case atStart => exact ⟨0, Nat.zero_le _, rfl, _, H2.out, Sized.nil⟩
      case round =>
        obtain ⟨k, hk, rfl, HM⟩ := hrel
        obtain ⟨p, hM, hS⟩ := HM.out
        have HS := Lib.hid hS
        clear HM hS
        by_cases hlt : k < L.length
        · obtain ⟨a, rfl, c0, c1, c2⟩ := (HD.out.keep hM.1).at_ hlt
          have hkk := HK.out L[k] (List.getElem_mem hlt)
          generalize L[k] = d at c0 c1 c2 hkk
          obtain ⟨kd, ky, nn⟩ := d
          simp only at c0 c1 c2 hkk
          have HKK := Lib.hid hkk
          have H3 := Lib.hid (hM.alloc (dbox (kd, ky, nn)))
          have D3 : Hid (DoBox (wr.alloc (dbox (kd, ky, nn))) wr.heap.size (kd, ky, nn)) := Lib.hid (heap_alloc_new wr _)
          clear hM hkk
          go_wp2_with fail
          refine (mDid H3.out (kd, ky, nn) HKK.out).mono ?_
          rintro e w4 ⟨rfl, h4, f4⟩
          have F := room_facts R p kd ky nn
          have SQ := Lib.hid (HS.out.step (kd, ky, nn) HKK.out R)
          generalize (stepL R p (kd, ky, nn)).1 = q at h4 F SQ
          generalize (stepL R p (kd, ky, nn)).2.2 = b at F ⊢
          generalize (stepL R p (kd, ky, nn)).2.1 = x
          have H4 := Lib.hid h4
          have D4 := Lib.hid (D3.out.far f4)
          have FF := Lib.hid F
          generalize wr.heap.size = db at D4 ⊢
          clear h4 f4 F c0 c1 c2 H3 D3
          go_wp2_with fail
          refine (mKeys H4.out).mono ?_
          rintro e w5 ⟨A2, cap2, rfl, hr, h5, hb5⟩
          have hlen := h5.len_le
          have HND := Lib.hid h5.nodup
          have H5 := Lib.hid h5
          have R5 := Lib.hid hr
          have D5 := Lib.hid (D4.out.far (Far.of_below hb5))
          clear h5 hr hb5 H4 D4
          have hl1 : ¬ (R : Int) < (q.length : Int) := by omega
          go_wp2_with fail
          refine (mLen H5.out).mono ?_
          rintro e w6 ⟨rfl, e6⟩
          subst e6
          have b1 := D5.out.cell 1
          simp only at b1
          go_wp2_with fail
          refine (mPeek H5.out ky HKK.out).mono ?_
          rintro e w6 ⟨rfl, h6, hb6⟩
          have H6 := Lib.hid h6
          have R6 := Lib.hid (R5.out.below hb6)
          have D6 := Lib.hid (D5.out.far (Far.of_below hb6))
          clear h6 hb6 b1 H5 R5 D5
          go_upto_region 13 with (fail)
          go_cut [114] (fun s wx => s = .bool false ∧ Hid (Mine w wx t R q ∧ SRow wx w4.heap.size (.slice A2 q.length cap2) (q.map (·.1))))
          case first =>
            have b0 := D6.out.cell 0
            have b1 := D6.out.cell 1
            have b2 := D6.out.cell 2
            simp only at b0 b1 b2
            have last : (∃ pre v, q = pre ++ [(ky, v)]) → ∃ m a2, q.length = m + 1 ∧ A2 = some a2 ∧ w6.cell? (a2.add m) = some (.string ky) := by
              rintro ⟨pre, v, rfl⟩
              obtain ⟨a2, ea, hc⟩ := R6.out.texts.2.at_ (i := pre.length) (by simp)
              refine ⟨pre.length, a2, by simp, ea, ?_⟩
              rw [hc]
              simp
            have HLast := Lib.hid last
            clear last
            by_cases k1 : kd = 1
            · subst k1
              cases b with
              | false =>
                clear FF HLast
                go_quiet (fail)
                go_wp2_with fail
                go_meet
                case rel => exact ⟨rfl, H6.out.drewN nq, R6.out.below (below_drewN (Below.refl _ _) nq)⟩
              | true =>
                have E1 : (!has q ky) = false := by rw [(FF.out.1 rfl rfl).1]; rfl
                have E2 : (getv q ky != nn) = false := by rw [(FF.out.1 rfl rfl).2]; simp
                obtain ⟨m2, a2, hm, rfl, hc⟩ := HLast.out (FF.out.2.2 (.inl rfl) rfl)
                have d0 : ¬ ((m2 : Int) < 0) := by omega
                have d1 : (m2 : Int) < (q.length : Int) := by omega
                have d2 : (q.length : Int) - 1 = (m2 : Int) := by omega
                clear FF HLast hm
                go_quiet (fail)
                go_wp2_with fail
                go_meet
                case rel => exact ⟨rfl, H6.out.drewN nq, R6.out.below (below_drewN (Below.refl _ _) nq)⟩
            · have t2 : (kd == 1) = false := beq_eq_false_iff_ne.2 k1
              by_cases k2 : kd = 2
              · subst k2
                cases b with
                | false =>
                  clear FF HLast
                  go_quiet (fail)
                  go_wp2_with fail
                  go_meet
                  case rel => exact ⟨rfl, H6.out.drewN nq, R6.out.below (below_drewN (Below.refl _ _) nq)⟩
                | true =>
                  obtain ⟨m2, a2, hm, rfl, hc⟩ := HLast.out (FF.out.2.2 (.inr rfl) rfl)
                  have d0 : ¬ ((m2 : Int) < 0) := by omega
                  have d1 : (m2 : Int) < (q.length : Int) := by omega
                  have d2 : (q.length : Int) - 1 = (m2 : Int) := by omega
                  clear FF HLast hm
                  go_quiet (fail)
                  go_wp2_with fail
                  go_meet
                  case rel => exact ⟨rfl, H6.out.drewN nq, R6.out.below (below_drewN (Below.refl _ _) nq)⟩
              · have t3 : (kd == 2) = false := beq_eq_false_iff_ne.2 k2
                by_cases k3 : kd = 3
                · subst k3
                  have E1 := FF.out.2.1 rfl
                  clear FF HLast
                  go_quiet (fail)
                  go_wp2_with fail
                  go_meet
                  case rel => exact ⟨rfl, H6.out.drewN nq, R6.out.below (below_drewN (Below.refl _ _) nq)⟩
                · have t4 : (kd == 3) = false := beq_eq_false_iff_ne.2 k3
                  clear FF HLast k1 k2 k3
                  go_quiet (fail)
                  go_wp2_with fail
                  go_meet
                  case rel => exact ⟨rfl, H6.out.drewN nq, R6.out.below (below_drewN (Below.refl _ _) nq)⟩
          case rest =>
            obtain ⟨rfl, HC⟩ := hcut
            clear H6 R6 D6 FF
            go_wp2_with fail
            go_loopw [13] (fun i wr => ∃ j : Nat, j ≤ q.length ∧ i = .int .i64 (j : Nat) ∧ Hid (Mine w wr t R q ∧ ∃ B, SRow wr B (.slice A2 q.length cap2) (q.map (·.1)))) (fun i _ => q.length - (intOf i).toNat)
            case atStart => exact ⟨0, Nat.zero_le _, rfl, HC.out.1, _, HC.out.2⟩
            case round =>
              obtain ⟨j, hj, rfl, HJ⟩ := hrel
              obtain ⟨hT, B, hRw⟩ := HJ.out
              have H10 := Lib.hid hT
              have R10 := Lib.hid hRw
              clear HJ hT hRw HC
              by_cases hlt2 : j < q.length
              · obtain ⟨a2, ea, hc⟩ := R10.out.texts.2.at_ (i := j) (by rw [List.length_map]; exact hlt2)
                subst ea
                rw [List.getElem_map] at hc
                have hsz := SQ.out q[j] (List.getElem_mem hlt2)
                have hin : has q q[j].1 = true := has_mem (v := q[j].2) (List.getElem_mem hlt2)
                have hnx := nxt_at HND.out hlt2
                have HX := Lib.hid hnx
                have HI := Lib.hid hin
                clear hnx hin
                go_wp2_with fail
                refine (mPeek H10.out q[j].1 hsz).mono ?_
                rw [HI.out]
                rintro e w11 ⟨rfl, h11, hb11⟩
                have H11 := Lib.hid h11
                have R11 := Lib.hid (R10.out.below hb11)
                clear h11 hb11 hc H10 R10
                obtain ⟨a3, ea, hc⟩ := R11.out.texts.2.at_ (i := j) (by rw [List.length_map]; exact hlt2)
                injection ea with ea
                subst ea
                rw [List.getElem_map] at hc
                go_wp2_with fail
                refine (mNext H11.out q[j].1 hsz).mono ?_
                rw [HX.out]
                by_cases hj1 : j + 1 < q.length
                · rw [dif_pos hj1]
                  rintro e w12 ⟨rfl, h12, hb12⟩
                  have H12 := Lib.hid h12
                  have R12 := Lib.hid (R11.out.below hb12)
                  clear h12 hb12 hc H11 R11
                  obtain ⟨a4, ea, hc⟩ := R12.out.texts.2.at_ (i := j + 1) (by rw [List.length_map]; exact hj1)
                  injection ea with ea
                  subst ea
                  rw [List.getElem_map, add_succ] at hc
                  have t2 : (j : Int) + 1 < (q.length : Int) := by omega
                  go_wp2_with fail
                  go_roundw
                  case rel => exact ⟨j + 1, by omega, by go_num, H12.out, _, R12.out⟩
                  case measure => simp [intOf]; omega
                · rw [dif_neg hj1]
                  rintro e w12 ⟨rfl, h12, hb12⟩
                  have H12 := Lib.hid h12
                  have R12 := Lib.hid (R11.out.below hb12)
                  clear h12 hb12 hc H11 R11
                  have t2 : ¬ (j : Int) + 1 < (q.length : Int) := by omega
                  go_wp2_with fail
                  go_roundw
                  case rel => exact ⟨j + 1, by omega, by go_num, H12.out, _, R12.out⟩
                  case measure => simp [intOf]; omega
              · go_wp2_with fail
                go_roundw
                case rel => exact ⟨k + 1, by omega, by go_num, q, H10.out, SQ.out⟩
                case measure => simp [intOf]; omega
        · have H3 := Lib.hid hM
          clear hM
          go_wp2_with fail
          refine (known_calls _).mono ?_
          rintro e w8 ⟨rfl, hb8⟩
          have H8 := Lib.hid (H3.out.below hb8)
          clear hb8
          go_wp2_with fail
          go_ret
          exact ⟨rfl, H8.out.1⟩

end Go.Proofs.Ytdnaecmihgcelaa.Tb
