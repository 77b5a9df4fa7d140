/-
  The rest of the law HashSpreads, behind the program's Spread.
-/
import Derived.Test.YtjehmdhcccmihaaKPoolSpr
import Derived.Test.YtjehmdhcccmihaaKPoolSame
import Derived.Test.YtjehmdhcccmihaaKHashKnown
namespace Go.Proofs.Ytjehmdhcccmihaa.Pool
open Go.RowKit Hs Lift

noncomputable def lwsParts : Array Oper × List Code := match Try.f3.body with
  | some (.seq _ (.seq _ (.seq (.region _ ops _) c1))) => (ops, [c1])
  | _ => (#[], [])
theorem spread_len {n : Int} {ps : List ByteArray} {x : List ByteArray} (h : x ∈ spreadR (clip n) (toShard n) ps) : x.length ≤ ps.length := by
  unfold spreadR at h
  obtain ⟨i, _, rfl⟩ := List.mem_map.1 h
  exact List.length_filter_le _ _
set_option maxHeartbeats 4000000 in
set_option maxRecDepth 100000 in
theorem spreads_rest (u2 u3 u5 u6 u7 u8 u9 u10 u11 u12 u13 u14 u15 : Value) (A : Option Addr) (cap : Nat) (ps : List ByteArray) (n : Int) (g : Nat) (w : World) (hA : Texts w A ps) (hl : ps.length ≤ 1048576) (hz : ∀ p ∈ ps, p.size ≤ maxLen)
    (hR : Rows w (some ⟨g, 0, none⟩) (spreadR (clip n) (toShard n) ps)) :
    wpList Try.prog lwsParts.1 (restPost Try.prog Try.f3 (fun e w' => e = .returned (.bool true) ∧ Below w.heap.size w w') lwsParts.2) (lwsParts.1.toList.drop 3)
      { tmps := #[.slice A ps.length cap, .int .i64 n, u2, u3, .bool false, u5, u6, u7, u8, u9, u10, u11, u12, u13, u14, u15, .slice (some ⟨g, 0, none⟩) (clip n) (clip n), undef, undef, undef, undef, undef, undef, undef], defers := [] } w := by
  have HR := Lib.hid hR
  have HRS := Lib.hid (refspread_calls A cap ps n w hA hl hz)
  have hlen := spreadR_length (clip n) (toShard n) ps
  have hlx : ∀ x ∈ spreadR (clip n) (toShard n) ps, x.length ≤ 1048576 := fun x hx => Nat.le_trans (spread_len hx) hl
  have hcl := clip_le n
  obtain ⟨F, hF⟩ : ∃ F, F = Try.f3 := ⟨_, rfl⟩
  rw [← hF]
  have HF := Lib.hid hF
  clear hF hA hR hz
  obtain ⟨rows, hrows⟩ : ∃ r, r = spreadR (clip n) (toShard n) ps := ⟨_, rfl⟩
  rw [← hrows] at HR hlen hlx
  have HQ := Lib.hid hrows
  clear hrows
  simp only [lwsParts, Try.f3]
  simp only [List.drop, List.drop_succ_cons, List.drop_zero]
  go_wp2_with fail
  refine HRS.out.mono ?_
  rintro e w1 ⟨⟨A2, c2, L2, rfl, hL2, hrr, hrd⟩, hb1⟩
  obtain ⟨A3, c3, e3, hR2⟩ := RRow.view hrr hrd
  rw [← HQ.out] at hL2
  rw [hL2] at hR2
  injection e3 with e31 e32 e33
  subst e31
  have hlL : L2.length = clip n := by rw [← hlen, ← hL2, List.length_map]
  have RT := Lib.hid (rows_true (some ⟨g, 0, none⟩) A2 (clip n) c2 rows w1 (HR.out.keep hb1) hR2 (by omega) hlx)
  rw [hlen] at RT
  rw [hlL]
  have HB1 := Lib.hid hb1
  clear hrr hrd hb1 hR2 e32 e33 hL2 hlL
  go_wp2_with fail
  refine RT.out.mono ?_
  rintro e w2 ⟨rfl, hb2⟩
  have HB2 := Lib.hid (HB1.out.trans (hb2.mono HB1.out.size))
  clear hb2
  go_wp2_with fail
  refine (known_calls _).mono ?_
  rintro e w3 ⟨rfl, hb3⟩
  have HB3 := Lib.hid (HB2.out.trans (hb3.mono HB2.out.size))
  clear hb3
  go_wp2_with fail
  show Code.wp Try.prog _ (restPost Try.prog F _ _) _ _
  rw [HF.out]
  go_wp2_with fail
  go_ret
  exact ⟨rfl, HB3.out⟩
end Go.Proofs.Ytjehmdhcccmihaa.Pool
