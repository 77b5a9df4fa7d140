/-
  The walk of RespCuts.
-/
import Derived.Test.YtgjedhdnnfdcgaaRspAll
namespace Go.Proofs.Ytgjedhdnnfdcgaa.Rp
open Go.RowKit

theorem BS.slice {S : Nat → Prop} {w : World} {a : Addr} {cap : Nat} {l : Bytes} (h : BS S w (some a) cap l) (i n : Nat) (hn : i + n ≤ l.length) : BS S w (some (a.add i)) (cap - i) ((l.drop i).take n) where
  bts := fun j hj => by
    rw [List.length_take, List.length_drop] at hj
    obtain ⟨a', e, hc⟩ := h.bts (i + j) (by omega)
    injection e with e
    subst e
    exact ⟨a.add i, rfl, by rw [Addr.add_add, List.getElem_take, List.getElem_drop]; exact hc⟩
  le := by rw [List.length_take, List.length_drop]; have := h.le; omega
  nil := fun e => by cases e
  fr := fun a' e hl => by
    injection e with e
    subst e
    rw [add_blk]
    exact h.fr a rfl (fun e => hl (by rw [e]; simp))
theorem BS.none_ {S : Nat → Prop} {w : World} (A : Option Addr) (cap : Nat) (h : A = none → cap = 0) : BS S w A cap [] where
  bts := fun i hi => absurd hi (by simp)
  le := Nat.zero_le _
  nil := h
  fr := fun _ _ h => absurd rfl h
theorem take_take_drop (b : Bytes) (m k : Nat) (h : m ≤ k) : b.take m ++ (b.drop m).take (k - m) = b.take k := by
  have e : k = m + (k - m) := by omega
  conv => rhs; rw [e, List.take_add]
theorem cmds_le (b : Bytes) (m : Nat) : (cmds (b.take m)).length ≤ b.length := by
  have := cmds_len (b.take m)
  rw [List.length_take] at this
  omega

/-- the last piece was fed -/
def CutEnd (C : RC) (b : Bytes) (w1 : World) (v : Nat) (u : Value) (A3 : Option Addr) (c3 n3 : Nat) (wx : World) : Prop :=
  ∃ own L L3, Sg C w1 wx own v b u L ∧ Handed (Free own wx) wx A3 L3 ∧ n3 = L3.length ∧ (A3 = none → c3 = 0) ∧ (L ++ L3).map (·.1) = cmds b
theorem cut_feed {C : RC} {b piece : Bytes} {w1 wc : World} {own : List Nat} {v m n : Nat} {u : Value} {L : List Cm} (hS : Sg C w1 wc own v (b.take m) u L) (hL : L.map (·.1) = cmds (b.take m)) (hb : b.length ≤ 1048576) (A : Option Addr) (cap : Nat) (hB : BS (Free own wc) wc A cap piece) (hp : b.take m ++ piece = b) (hn : n = piece.length) :
    Calls Try.prog 12 #[.pointer (some ⟨v, 0, none⟩), .slice A n cap] wc fun e w' => ∃ A3 c3 n3, e = .returned (.tuple #[.slice A3 n3 c3, .int .i64 (errI b)]) ∧ CutEnd C b w1 v u A3 c3 n3 w' := by
  subst hn
  have hl := congrArg List.length hp
  rw [List.length_append] at hl
  refine (C.feed_ hS.one.2.1 A cap piece hB (by omega)).mono ?_
  rintro e w3 ⟨own', A3, c3, L3, rfl, hn3, hL3, hH3, a3, k3⟩
  have hcm := cmds_news (b.take m) piece
  rw [hp] at a3 hcm ⊢
  exact ⟨A3, c3, _, rfl, own', L, L3, hS.turn a3 k3, hH3.mono fun _ h => h.1, rfl, hn3, by rw [List.map_append, hL, hL3, hcm]⟩
/-- the loop's relation -/
def CutInv (C : RC) (b : Bytes) (w1 : World) (v : Nat) (nc : Nat) (u at_ i : Value) (wr : World) : Prop :=
  ∃ (j m : Nat), j ≤ nc ∧ m ≤ b.length ∧ i = .int .i64 (j : Nat) ∧ at_ = .int .i64 (m : Nat) ∧ Hid (∃ own L, Sg C w1 wr own v (b.take m) u L ∧ L.map (·.1) = cmds (b.take m))

set_option maxHeartbeats 4000000 in
set_option maxRecDepth 100000 in
theorem cuts_law (C : RC) (A : Option Addr) (cap : Nat) (b : Bytes) (D : Option Addr) (capd : Nat) (cuts : Bytes) (w : World) (hA : BS (fun x => x < w.heap.size) w A cap b) (hb : b.length ≤ maxLen) (hD : Bts w D cuts) (hd : cuts.length ≤ maxLen) :
    Calls Try.prog 5 #[.slice A b.length cap, .slice D cuts.length capd] w fun e w' => e = .returned (.bool true) ∧ Below w.heap.size w w' := by
  unfold maxLen at hb hd
  have HA := Lib.hid hA
  have HD := Lib.hid hD
  clear hA hD
  by_cases h1 : b.length ≤ 1500
  · have i1 : ¬ (1500 : Int) < (b.length : Int) := by omega
    by_cases h2 : cuts.length ≤ 100
    · have i2 : ¬ (100 : Int) < (cuts.length : Int) := by omega
      go_enter Try.func5, Try.ntmps5
      go_wp2_with fail
      refine (C.whole_ A cap b _ HA.out.bts HA.out.le HA.out.nil (by omega)).mono ?_
      rintro e w1 ⟨A1, c1, rfl, hc1, hr1, hb1⟩
      have HB1 := Lib.hid hb1
      have HR1 := Lib.hid hr1
      have HA1 : Hid (BS (fun x => x < w1.heap.size) w1 A cap b) := Lib.hid (HA.out.goes fun x hx => ⟨hb1.block x hx, Nat.lt_of_lt_of_le hx hb1.size⟩)
      have HD1 := Lib.hid (HD.out.keep hb1)
      clear hb1 hr1 HA HD hc1
      go_wp2_with fail
      refine (C.new_ _).mono ?_
      rintro e w2 ⟨v, o1, rfl, a1, b1, l1⟩
      have HS2 : Hid (∃ own L, Sg C w1 w2 own v (b.take 0) (.slice none 0 0) L ∧ L.map (·.1) = cmds (b.take 0)) := Lib.hid ⟨o1, [], ⟨⟨b1, a1, l1⟩, RRow.nil _ _, (fun g hg => by cases hg), TS.nil _ _⟩, rfl⟩
      clear a1 b1 l1
      go_wp2_with fail
      go_loopw [9, 10, 11] (fun u at_ i wr => CutInv C b w1 v cuts.length u at_ i wr) (fun _ _ i _ => cuts.length - (intOf i).toNat)
      case atStart => exact ⟨0, 0, Nat.zero_le _, Nat.zero_le _, rfl, rfl, HS2.out⟩
      case round =>
        clear HS2
        obtain ⟨j, m, hj, hm, rfl, rfl, HS⟩ := hrel
        obtain ⟨own, L, hS, hL⟩ := Hid.out HS
        obtain ⟨U, un, uc, rfl, hun⟩ := RRow.form hS.row
        have HSS := Lib.hid hS
        have HLL := Lib.hid hL
        have hll : L.length ≤ b.length := by
          have := cmds_le b m
          rw [← hL, List.length_map] at this
          exact this
        have HUN := Lib.hid hun
        clear HS hS hL hun
        by_cases hgo : j < cuts.length ∧ m < b.length
        · obtain ⟨hj2, hm2⟩ := hgo
          have i3 : (j : Int) < (cuts.length : Int) := by omega
          have i4 : (m : Int) < (b.length : Int) := by omega
          obtain ⟨da, rfl, c0⟩ := (HD1.out.keep HSS.out.one.1).at_ hj2
          generalize cuts[j] = cv at c0
          have hcv := cv.toNat_lt
          obtain ⟨a, rfl⟩ : ∃ a, A = some a := by
            obtain ⟨a, e, _⟩ := HA1.out.bts 0 (by omega)
            exact ⟨a, e⟩
          obtain ⟨k, hk⟩ : ∃ k, k = min (m + cv.toNat) b.length := ⟨_, rfl⟩
          have hkl : k ≤ b.length := by omega
          have hmk : m ≤ k := by omega
          have ek : (if (b.length : Int) < (m : Int) + (cv.toNat : Int) then (b.length : Int) else (m : Int) + (cv.toNat : Int)) = (k : Int) := by
            split <;> omega
          have hcap : k ≤ cap := by have := HA1.out.le; omega
          have hcp2 : b.length ≤ cap := HA1.out.le
          have HBS := Lib.hid ((HA1.out.goes HSS.out.one.begun).slice m (k - m) (by omega))
          have HPL : Hid (((b.drop m).take (k - m)).length = k - m) := Lib.hid (by rw [List.length_take, List.length_drop]; omega)
          have HTT := Lib.hid (take_take_drop b m k hmk)
          have HTL : Hid ((b.take m).length = m) := Lib.hid (by rw [List.length_take]; omega)
          clear hk
          go_wp2_with fail
          have hf := C.feed_ HSS.out.one.2.1 (some (a.add m)) (cap - m) ((b.drop m).take (k - m)) HBS.out (by rw [HTL.out, HPL.out]; omega)
          rw [HPL.out] at hf
          refine hf.mono ?_
          clear hf
          rintro e w3 ⟨own', A3, c3, L3, rfl, hn3, hL3, hH3, a3, k3⟩
          have hcm := cmds_news (b.take m) ((b.drop m).take (k - m))
          rw [HTT.out] at a3 hcm
          have SG3 := Lib.hid (HSS.out.turn a3 k3)
          have HH3 := Lib.hid (hH3.mono fun _ h => h.1)
          have HN3 := Lib.hid hn3
          have HL3 : Hid ((L ++ L3).map (·.1) = cmds (b.take k)) := Lib.hid (by rw [List.map_append, HLL.out, hL3, hcm])
          have hl3 : L.length + L3.length ≤ 1048576 := by
            have h1 := congrArg List.length HL3.out
            rw [List.length_map, List.length_append] at h1
            have := cmds_le b k
            omega
          obtain ⟨n3, hn⟩ : ∃ n3, n3 = L3.length := ⟨_, rfl⟩
          rw [← hn]
          have HNN := Lib.hid hn
          have HLE := Lib.hid hl3
          clear hn3 hL3 hH3 a3 k3 hcm hn hl3 HSS HBS
          go_wp2_with (at_builtin; refine wpList_append_cms rfl _ _ rfl w1.heap.size _ L rfl SG3.out.row A3 c3 _ L3 rfl HH3.out HNN.out HN3.out HLE.out ?c2 ?_)
          case c2 => exact SG3.out.one.1.size
          intro v' w4 ho hg hu
          have SG4 := Lib.hid (SG3.out.append HH3.out.ts ho hg hu)
          clear ho hg hu SG3 HH3
          go_wp2_with fail
          go_roundw
          case rel => exact ⟨j + 1, k, by omega, hkl, by go_num, rfl, Lib.hid ⟨own', L ++ L3, SG4.out, HL3.out⟩⟩
          case measure => simp [intOf]; omega
        · have hx : (j < cuts.length ∧ ¬ m < b.length) ∨ ¬ j < cuts.length := by omega
          clear hgo
          go_upto_region 8 with (fail)
          go_cut [42] (fun s42 wx => s42 = .bool false ∧ wx = wr)
          case first =>
            rcases hx with ⟨x1, x2⟩ | x1
            · have y1 : (j : Int) < (cuts.length : Int) := by omega
              have y2 : decide (m < b.length) = false := decide_eq_false x2
              have y3 : ¬ (m : Int) < (b.length : Int) := by omega
              clear x1 x2
              go_wp2_with fail
              go_meet
              case rel => exact ⟨rfl, rfl⟩
            · have y1 : ¬ (j : Int) < (cuts.length : Int) := by omega
              have y2 : decide (j < cuts.length) = false := decide_eq_false x1
              clear x1
              go_wp2_with fail
              go_meet
              case rel => exact ⟨rfl, rfl⟩
          case rest =>
            clear hx
            obtain ⟨rfl, hw0⟩ := hcut
            subst hw0
            go_upto_region 14 with (fail)
            go_cut [15, 16] (fun s15 s16 wx => ∃ A3 c3 n3, s15 = .slice A3 n3 c3 ∧ s16 = .int .i64 (errI b) ∧ Hid (CutEnd C b w1 v (.slice U un uc) A3 c3 n3 wx))
            case first =>
              cases A with
              | none =>
                have hb0 : b = [] := by
                  cases b with
                  | nil => rfl
                  | cons x b => obtain ⟨_, e, _⟩ := HA1.out.bts 0 (by simp); cases e
                have hc0 : cap = 0 := HA1.out.nil rfl
                obtain rfl : m = 0 := by rw [hb0] at hm; simpa using hm
                subst hc0
                have HF := Lib.hid (cut_feed (n := 0) HSS.out HLL.out (by omega) none 0 (BS.none_ (S := Free own wc) (w := wc) none 0 (fun _ => rfl)) (by rw [hb0]; rfl) rfl)
                subst hb0
                go_wp2_with fail
                refine HF.out.mono ?_
                rintro e w3 ⟨A3, c3, n3, rfl, hE⟩
                have HE := Lib.hid hE
                clear hE
                go_wp2_with fail
                go_meet
                case rel => exact ⟨A3, c3, n3, rfl, rfl, HE⟩
              | some a =>
                have hcp2 : b.length ≤ cap := HA1.out.le
                by_cases hmc : m = cap
                · have hml : m = b.length := by omega
                  have HF := Lib.hid (cut_feed (n := 0) (piece := []) HSS.out HLL.out (by omega) (some a) 0 (BS.none_ (S := Free own wc) (w := wc) (some a) 0 (by intro e; cases e)) (by rw [List.append_nil, hml, List.take_length]) rfl)
                  subst hml
                  subst hmc
                  go_wp2_with fail
                  refine HF.out.mono ?_
                  rintro e w3 ⟨A3, c3, n3, rfl, hE⟩
                  have HE := Lib.hid hE
                  clear hE
                  go_wp2_with fail
                  go_meet
                  case rel => exact ⟨A3, c3, n3, rfl, rfl, HE⟩
                · have hmc2 : m < cap := by omega
                  have hmc3 : ¬ cap ≤ m := by omega
                  have HB0 := (HA1.out.goes HSS.out.one.begun).slice m (b.length - m) (by omega)
                  rw [show (b.drop m).take (b.length - m) = b.drop m from List.take_of_length_le (by rw [List.length_drop]; omega)] at HB0
                  have HF := Lib.hid (cut_feed (n := b.length - m) HSS.out HLL.out (by omega) (some (a.add m)) (cap - m) HB0 (List.take_append_drop m b) (by rw [List.length_drop]))
                  clear HB0
                  go_wp2_with fail
                  refine HF.out.mono ?_
                  rintro e w3 ⟨A3, c3, n3, rfl, hE⟩
                  have HE := Lib.hid hE
                  clear hE
                  go_wp2_with fail
                  go_meet
                  case rel => exact ⟨A3, c3, n3, rfl, rfl, HE⟩
            case rest =>
              obtain ⟨A3, c3, n3, rfl, rfl, HE⟩ := hcut
              obtain ⟨own3, L4, L3, sg3, hh3, hn3, hz3, hlm⟩ := Hid.out HE
              have hls : L4.length + L3.length = (cmds b).length := by
                have h1 := congrArg List.length hlm
                rw [List.length_map, List.length_append] at h1
                exact h1
              have hcl := cmds_len b
              have SG3 := Lib.hid sg3
              have HH3 := Lib.hid hh3
              have HN3 := Lib.hid hn3
              have HZ3 := Lib.hid hz3
              have HLM := Lib.hid hlm
              have HLE : Hid (L4.length + L3.length ≤ 1048576) := Lib.hid (by omega)
              clear HE sg3 hh3 hn3 hz3 hlm HSS HLL HUN hll
              go_wp2_with (at_builtin; refine wpList_append_cms rfl _ _ rfl w1.heap.size _ L4 rfl SG3.out.row A3 c3 _ L3 rfl HH3.out HN3.out HZ3.out HLE.out ?c2 ?_)
              case c2 => exact SG3.out.one.1.size
              intro v' w4 ho hg hu
              have SG4 := Lib.hid (SG3.out.append HH3.out.ts ho hg hu)
              obtain ⟨V5, c5, rfl, hr5⟩ := SG4.out.row.rows SG4.out.ts
              rw [HLM.out] at hr5
              have HR5 := Lib.hid hr5
              have hln : (L4 ++ L3).length = (cmds b).length := by rw [List.length_append]; exact hls
              rw [hln]
              have HRR := Lib.hid (HR1.out.keep SG4.out.one.1)
              obtain ⟨q, hq⟩ : ∃ q, q = (cmds b).length := ⟨_, rfl⟩
              rw [← hq]
              have HQ := Lib.hid hq
              have hql : (cmds b).length ≤ 1048576 := by omega
              have HQL := Lib.hid hql
              have HLEFT : Hid (leftI b = if wrong b then 0 else b.length - used b) := Lib.hid rfl
              have hub := (canon b).1
              have HWE : Hid ((wrong b = true ∧ errI b = 7 ∧ leftI b = 0) ∨ (wrong b = false ∧ errI b = 0 ∧ (leftI b : Int) = (b.length : Int) - (used b : Int))) := Lib.hid (by
                unfold errI leftI
                cases wrong b
                · right; simp; omega
                · left; simp)
              have HBL : Hid (b.length ≤ 1048576) := Lib.hid (by omega)
              clear ho hg hu SG3 HH3 HN3 HZ3 HLE hr5 hln hls hcl hq hql
              go_wp2_with fail
              refine (rows_same (n := q) HR5.out HRR.out HQ.out HQL.out (cmds_fit b)).mono ?_
              rintro e w5 ⟨rfl, hb5⟩
              have SG5 := Lib.hid (SG4.out.below hb5)
              clear hb5 SG4 HR5 HRR
              rcases HWE.out with ⟨g1, g2, g3⟩ | ⟨g1, g2, g3⟩
              · rw [g2]
                have HW := Lib.hid g1
                clear g1 g2 g3 HWE HLEFT
                go_wp2_with fail
                refine (C.wrong_ SG5.out.one.2.1 HBL.out).mono ?_
                rw [HW.out]
                rintro e w6 ⟨rfl, hb6⟩
                have HB6 := Lib.hid ((HB1.out.trans (SG5.out.one.1.mono HB1.out.size)).trans (hb6.mono (HB1.out.trans (SG5.out.one.1.mono HB1.out.size)).size))
                clear hb6 SG5
                go_wp2_with fail
                refine (known_calls C _).mono ?_
                rintro e w9 ⟨rfl, hk9⟩
                have HB9 := Lib.hid (HB6.out.trans (hk9.mono HB6.out.size))
                clear hk9
                go_wp2_with fail
                go_ret
                exact ⟨rfl, HB9.out⟩
              · rw [g2]
                have HW := Lib.hid g1
                have HG := Lib.hid g3
                clear g1 g2 g3 HWE HLEFT
                go_wp2_with fail
                refine (C.left_ SG5.out.one.2.1 HBL.out).mono ?_
                rw [HG.out]
                rintro e w6 ⟨rfl, hb6⟩
                have SG6 := Lib.hid (SG5.out.below hb6)
                have e6 : (0 : Int) ≤ (b.length : Int) - (used b : Int) := by omega
                clear hb6 SG5
                go_wp2_with fail
                refine (C.wrong_ SG6.out.one.2.1 HBL.out).mono ?_
                rw [HW.out]
                rintro e w7 ⟨rfl, hb7⟩
                have HB7 := Lib.hid ((HB1.out.trans (SG6.out.one.1.mono HB1.out.size)).trans (hb7.mono (HB1.out.trans (SG6.out.one.1.mono HB1.out.size)).size))
                clear hb7 SG6
                go_wp2_with fail
                refine (known_calls C _).mono ?_
                rintro e w9 ⟨rfl, hk9⟩
                have HB9 := Lib.hid (HB7.out.trans (hk9.mono HB7.out.size))
                clear hk9
                go_wp2_with fail
                go_ret
                exact ⟨rfl, HB9.out⟩
    · have i2 : (100 : Int) < (cuts.length : Int) := by omega
      clear h1 h2
      go_enter Try.func5, Try.ntmps5
      go_wp2_with fail
      refine (known_calls C _).mono ?_
      rintro e w9 ⟨rfl, hk9⟩
      have HB9 := Lib.hid (hk9)
      clear hk9
      go_wp2_with fail
      go_ret
      exact ⟨rfl, HB9.out⟩
  · have i1 : (1500 : Int) < (b.length : Int) := by omega
    clear h1
    go_enter Try.func5, Try.ntmps5
    go_wp2_with fail
    refine (known_calls C _).mono ?_
    rintro e w9 ⟨rfl, hk9⟩
    have HB9 := Lib.hid (hk9)
    clear hk9
    go_wp2_with fail
    go_ret
    exact ⟨rfl, HB9.out⟩
end Go.Proofs.Ytgjedhdnnfdcgaa.Rp
