/-
  The rest of the law HashAll, behind the program's Spread.
-/
import Derived.Test.YtjehmdhcccmihaaKPoolSpr
import Derived.Test.YtjehmdhcccmihaaKPoolSame
import Derived.Test.YtjehmdhcccmihaaKPoolLws
import Derived.Test.YtjehmdhcccmihaaKPoolMta
import Derived.Test.YtjehmdhcccmihaaKHashKnown
import Derived.Deep.QuietTactic
import Derived.Deep.Draws
namespace Go.Proofs.Ytjehmdhcccmihaa.Pool
open Go.RowKit Hs Lift Gw

noncomputable def lwaParts : Array Oper × List Code := match Try.f4.body with
  | some (.seq _ (.seq _ (.seq _ (.seq (.region _ ops _) c1)))) => (ops, [c1])
  | _ => (#[], [])
theorem toShard_lt (n : Int) (p : ByteArray) : toShard n p < clip n := by
  have := clip_pos n
  unfold toShard shardOf
  exact Nat.mod_lt _ (by omega)
/-- how many stand in the first a rows -/
def many (n : Int) (ps : List ByteArray) (a : Nat) : Nat := sumN a fun i => (ps.filter fun p => toShard n p = i).length
theorem many_le (n : Int) (ps : List ByteArray) (a : Nat) (h : a ≤ clip n) : many n ps a ≤ ps.length := by
  have e := many_all (n := clip n) (f := toShard n) (ps := ps) fun p _ => toShard_lt n p
  have mono : ∀ k, many n ps a ≤ many n ps (a + k) := fun k => by
    induction k with
    | zero => exact Nat.le_refl _
    | succ k ih => rw [← Nat.add_assoc]; unfold many at *; rw [sumN_succ]; omega
  have := mono (clip n - a)
  rw [show a + (clip n - a) = clip n by omega] at this
  unfold many at this ⊢
  omega

open Classical in
/-- among the first c of a row -/
noncomputable def fnd (p : ByteArray) (row : List ByteArray) (c : Nat) : Bool := decide (p ∈ row.take c)
theorem fnd_zero (p : ByteArray) (row : List ByteArray) : fnd p row 0 = false := by simp [fnd]
open Classical in
theorem fnd_succ {p : ByteArray} {row : List ByteArray} {c : Nat} (h : c < row.length) : fnd p row (c + 1) = (fnd p row c || decide (row[c] = p)) := by
  have e : p ∈ row.take (c + 1) ↔ (p ∈ row.take c ∨ row[c] = p) := by
    rw [List.take_succ_eq_append_getElem h, List.mem_append, List.mem_singleton]
    exact ⟨fun h => h.imp id Eq.symm, fun h => h.imp id Eq.symm⟩
  unfold fnd
  by_cases h1 : p ∈ row.take c
  · have h2 : p ∈ row.take (c + 1) := e.2 (.inl h1)
    simp [h1, h2]
  · by_cases h2 : row[c] = p
    · have h3 : p ∈ row.take (c + 1) := e.2 (.inr h2)
      simp [h2, h3]
    · have h3 : ¬ p ∈ row.take (c + 1) := fun h => (e.1 h).elim h1 h2
      simp [h1, h2, h3]
theorem fnd_all {p : ByteArray} {row : List ByteArray} (h : p ∈ row) : fnd p row row.length = true := by simp [fnd, h]
theorem clip_of {kk : Nat} (h1 : 1 ≤ kk) (h2 : kk ≤ 64) : clip (kk : Int) = kk := by
  have := clip_mid (n := (kk : Int)) (by omega) (by omega)
  omega
set_option maxHeartbeats 8000000 in
set_option maxRecDepth 100000 in
theorem all_rest (u2 u3 u14 u15 u16 u17 u18 u19 u20 u21 u22 u23 u24 u25 u26 u27 u28 : Value) (x : Int) (A : Option Addr) (cap : Nat) (ps : List ByteArray) (kk : Nat) (g : Nat) (w : World) (hk1 : 1 ≤ kk) (hk : kk ≤ 64) (hA : Texts w A ps) (hl : ps.length ≤ 60) (hz : ∀ p ∈ ps, p.size ≤ maxLen)
    (hR : Rows w (some ⟨g, 0, none⟩) (spreadR kk (toShard kk) ps)) :
    wpList Try.prog lwaParts.1 (restPost Try.prog Try.f4 (fun e w' => e = .returned (.bool true) ∧ Below w.heap.size w w') lwaParts.2) (lwaParts.1.toList.drop 3)
      { tmps := #[.slice A ps.length cap, .int .u8 x, u2, u3, .bool false, .int .i64 kk, undef, undef, undef, undef, undef, undef, undef, undef, u14, u15, u16, u17, u18, u19, u20, u21, u22, u23, u24, u25, u26, u27, u28, .slice (some ⟨g, 0, none⟩) kk kk, undef, undef, undef, undef, undef, undef, undef, undef, undef, undef, undef, undef, undef, undef, undef, undef, undef, undef, undef, undef, undef, undef, undef, undef, undef, undef, undef, undef, undef, undef, undef, undef, undef, undef, undef, undef, undef, undef, undef, undef, undef, undef, undef, undef, undef, undef, undef, undef, undef, undef, undef, undef, undef, undef, undef, undef, undef, undef, undef, undef, undef, undef, undef, undef, undef, undef, undef, undef, undef, undef, undef, undef, undef, undef, undef, undef, undef, undef, undef, undef, undef], defers := [] } w := by
  have hck := clip_of hk1 hk
  have hrow : ∀ a, a < kk → ∃ B c, w.cell? ⟨g, a, none⟩ = some (.slice B (ps.filter fun p => toShard kk p = a).length c) ∧ Texts w B (ps.filter fun p => toShard kk p = a) := fun a ha => by
    obtain ⟨ad, e, B, c, h1, h2, _⟩ := hR.at_ (i := a) (by rw [spreadR_length]; exact ha)
    cases e
    have e2 := spreadR_get (n := kk) (f := toShard kk) (ps := ps) ha
    have e3 : (spreadR kk (toShard kk) ps)[a]'(by rw [spreadR_length]; exact ha) = ps.filter fun p => toShard kk p = a := by
      rw [List.getElem?_eq_getElem (by rw [spreadR_length]; exact ha)] at e2
      exact Option.some.inj e2
    rw [e3] at h1 h2
    rw [add_zero_blk] at h1
    exact ⟨B, c, h1, h2⟩
  have HROW := Lib.hid hrow
  have HA := Lib.hid hA
  have HZ := Lib.hid hz
  have HML : Hid (∀ a, a ≤ kk → many kk ps a ≤ 60) := Lib.hid fun a ha => Nat.le_trans (many_le kk ps a (by rw [hck]; exact ha)) hl
  have HMA : Hid (many kk ps kk = ps.length) := Lib.hid (by
    have := many_all (n := clip (kk : Int)) (f := toShard kk) (ps := ps) fun p _ => toShard_lt kk p
    rw [hck] at this
    exact this)
  have HSH : Hid (∀ (p : ByteArray) (w : World), p.size ≤ maxLen → Calls Try.prog 11 #[.string p, .int .i64 kk] w fun e w' => e = .returned (.int .i64 (toShard kk p : Nat)) ∧ w = w') := Lib.hid fun p w h => shard_calls p kk w h
  have HFL : Hid (∀ a, (ps.filter fun p => toShard kk p = a).length ≤ 60) := Lib.hid fun a => Nat.le_trans (List.length_filter_le _ _) hl
  clear hrow hA hR hz
  obtain ⟨F, hF⟩ : ∃ F, F = Try.f4 := ⟨_, rfl⟩
  rw [← hF]
  have HF := Lib.hid hF
  clear hF
  simp only [lwaParts, Try.f4]
  simp only [List.drop, List.drop_succ_cons, List.drop_zero]
  go_wp2_with fail
  show Code.wp Try.prog _ (restPost Try.prog F _ _) _ _
  rw [HF.out]
  go_wp2_with fail
  go_loop [7, 8] (fun m i => ∃ (a : Nat), a ≤ kk ∧ i = .int .i64 a ∧ m = .int .i64 (many kk ps a : Nat)) (fun _ i => kk - (intOf i).toNat)
  case atStart => exact ⟨0, Nat.zero_le _, rfl, rfl⟩
  case round =>
    obtain ⟨a, ha, rfl, rfl⟩ := hrel
    have hm60 := HML.out a ha
    by_cases hlt : a < kk
    · obtain ⟨B, c, hc, hB⟩ := HROW.out a hlt
      have hfl := HFL.out a
      have hms : many kk ps (a + 1) = many kk ps a + (ps.filter fun p => toShard kk p = a).length := sumN_succ ..
      have hmem : ∀ q ∈ (ps.filter fun p => toShard kk p = a), toShard kk q = a ∧ q.size ≤ maxLen := fun q hq => by
        have h := List.mem_filter.1 hq
        exact ⟨by simpa using h.2, HZ.out q h.1⟩
      generalize (ps.filter fun p => toShard kk p = a) = row at hc hB hfl hms hmem
      obtain ⟨z, hzl⟩ : ∃ z, z = row.length := ⟨_, rfl⟩
      rw [← hzl] at hc hfl hms
      have HB := Lib.hid hB
      have HMEM := Lib.hid hmem
      have HMS := Lib.hid hms
      have HZL := Lib.hid hzl
      have i1 : (a : Int) < (kk : Int) := by omega
      clear hB hmem hms hzl hlt
      go_wp2_with fail
      go_loop [9] (fun j => ∃ (b : Nat), b ≤ z ∧ j = .int .i64 b) (fun j => z - (intOf j).toNat)
      case atStart => exact ⟨0, Nat.zero_le _, rfl⟩
      case round =>
        obtain ⟨b, hb, rfl⟩ := hrel
        by_cases hbl : b < z
        · obtain ⟨b0, eB, hcb⟩ := HB.out.at_ (i := b) (by have := HZL.out; omega)
          obtain ⟨hsa, hsz⟩ := HMEM.out (row[b]'(by have := HZL.out; omega)) (List.getElem_mem _)
          subst eB
          generalize row[b]'(by have := HZL.out; omega) = q at hcb hsa hsz
          have i2 : (b : Int) < (z : Int) := by omega
          go_wp2_with fail
          refine (HSH.out q _ hsz).mono ?_
          rintro e w1 ⟨rfl, rfl⟩
          rw [hsa]
          go_wp2_with fail
          go_round
          case rel => exact ⟨b + 1, by omega, by go_num⟩
          case measure => simp [intOf]; omega
        · have i2 : ¬ (b : Int) < (z : Int) := by omega
          go_wp2_with fail
          go_round
          case rel => exact ⟨a + 1, by omega, by go_num, by rw [HMS.out]; go_num⟩
          case measure => simp [intOf]; omega
    · have hae : a = kk := by omega
      have hm : many kk ps a = ps.length := by rw [hae]; exact HMA.out
      rw [hm]
      have i1 : ¬ (a : Int) < (kk : Int) := by omega
      clear hm60 hlt hm
      go_wp2_with fail
      go_loopw [10] (fun i wr => ∃ (b nd : Nat), b ≤ ps.length ∧ i = .int .i64 b ∧ wr = w.drewN nd) (fun i _ => ps.length - (intOf i).toNat)
      case atStart => exact ⟨0, 0, Nat.zero_le _, rfl, rfl⟩
      case round =>
        obtain ⟨b, nd, hb, rfl, rfl⟩ := hrel
        by_cases hbl : b < ps.length
        · obtain ⟨a0, eA, c0⟩ := HA.out.at_ hbl
          subst eA
          have hsz := HZ.out ps[b] (List.getElem_mem hbl)
          have hs : toShard kk ps[b] < kk := by have := toShard_lt kk ps[b]; rw [hck] at this; exact this
          obtain ⟨B, c, hc, hB⟩ := HROW.out (toShard kk ps[b]) hs
          have hin : ps[b] ∈ ps.filter fun p => toShard kk p = toShard kk ps[b] := List.mem_filter.2 ⟨List.getElem_mem hbl, by simp⟩
          have hfl := HFL.out (toShard kk ps[b])
          have HSP := HSH.out ps[b]
          have i2 : (b : Int) < (ps.length : Int) := by omega
          generalize (ps.filter fun p => toShard kk p = toShard kk ps[b]) = row at hc hB hin hfl
          generalize toShard kk ps[b] = s at hc hs HSP
          generalize ps[b] = p at c0 hsz hin HSP
          obtain ⟨z, hzl⟩ : ∃ z, z = row.length := ⟨_, rfl⟩
          rw [← hzl] at hc hfl
          have HB := Lib.hid hB
          have HIN := Lib.hid hin
          have HSP := Lib.hid HSP
          have HZL := Lib.hid hzl
          clear hB hin hzl
          go_wp2_with fail
          refine (HSP.out _ hsz).mono ?_
          rintro e w1 ⟨rfl, rfl⟩
          go_wp2_with fail
          go_loopw [12, 13] (fun f j wr => ∃ (d nd : Nat), d ≤ z ∧ j = .int .i64 d ∧ f = .bool (fnd p row d) ∧ wr = w.drewN nd) (fun _ j _ => z - (intOf j).toNat)
          case atStart => exact ⟨0, nd, Nat.zero_le _, rfl, by rw [fnd_zero], rfl⟩
          case round =>
            obtain ⟨d, nd2, hd, rfl, rfl, rfl⟩ := hrel
            by_cases hdl : d < z
            · obtain ⟨b0, eB, hcd⟩ := HB.out.at_ (i := d) (by have := HZL.out; omega)
              subst eB
              have hfs := fnd_succ (p := p) (row := row) (c := d) (by have := HZL.out; omega)
              generalize row[d]'(by have := HZL.out; omega) = q at hcd hfs
              have i3 : (d : Int) < (z : Int) := by omega
              cases hf : fnd p row d with
              | true =>
                rw [hf, Bool.true_or] at hfs
                have HFS := Lib.hid hfs
                clear hfs hf
                go_wp2_with fail
                go_quiet (fail)
                go_wp2_with fail
                go_roundw
                case rel => exact ⟨d + 1, nd2 + nq, by omega, by go_num, by rw [HFS.out], rfl⟩
                case measure => simp [intOf]; omega
              | false =>
                by_cases hxy : q = p
                · subst hxy
                  rw [hf] at hfs
                  have HFS : Hid (fnd q row (d + 1) = true) := Lib.hid (by rw [hfs]; simp)
                  clear hfs hf
                  go_wp2_with fail
                  go_quiet (fail)
                  go_wp2_with fail
                  go_roundw
                  case rel => exact ⟨d + 1, nd2 + nq, by omega, by go_num, by rw [HFS.out], rfl⟩
                  case measure => simp [intOf]; omega
                · rw [hf] at hfs
                  have HFS : Hid (fnd p row (d + 1) = false) := Lib.hid (by rw [hfs]; simp [hxy])
                  have hne : (q.toList == p.toList) = false := by
                    rw [ByteArray.toList_eq, ByteArray.toList_eq]
                    exact beq_eq_false_iff_ne.2 fun e => hxy (ByteArray.ext (Array.toList_inj.1 e))
                  clear hfs hf
                  go_wp2_with fail
                  go_quiet (fail)
                  go_wp2_with fail
                  go_roundw
                  case rel => exact ⟨d + 1, nd2 + nq, by omega, by go_num, by rw [HFS.out], rfl⟩
                  case measure => simp [intOf]; omega
            · have i3 : ¬ (d : Int) < (z : Int) := by omega
              have hft : fnd p row d = true := by
                have hdz : d = z := by omega
                rw [hdz, HZL.out]
                exact fnd_all HIN.out
              rw [hft]
              clear hft
              go_wp2_with fail
              go_roundw
              case rel => exact ⟨b + 1, nd2, by omega, by go_num, rfl⟩
              case measure => simp [intOf]; omega
        · have i2 : ¬ (b : Int) < (ps.length : Int) := by omega
          go_wp2_with fail
          refine (known_calls _).mono ?_
          rintro e w3 ⟨rfl, hb3⟩
          have HB3 : Hid (Below w.heap.size w w3) := Lib.hid ((below_drewN (Below.refl _ _) nd).trans hb3)
          clear hb3
          go_wp2_with fail
          go_ret
          exact ⟨rfl, HB3.out⟩
end Go.Proofs.Ytjehmdhcccmihaa.Pool
