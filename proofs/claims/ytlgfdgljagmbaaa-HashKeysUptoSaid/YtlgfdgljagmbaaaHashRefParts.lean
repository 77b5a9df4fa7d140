/-
  What the document's own Parts answers, in any world.
-/
import Derived.Test.YtlgfdgljagmbaaaHashParts
namespace Go.Proofs.Ytlgfdgljagmbaaa
open Go.RowKit
namespace Hs

theorem bys_bat (ps : List (List UInt8)) : bys (ps.map bat) = ps := by
  unfold bys bat
  rw [List.map_map]
  exact (List.map_congr_left fun p _ => by simp).trans (List.map_id _)
theorem part_long {ps : List (List UInt8)} {p : List UInt8} (h : p ∈ ps) : p.length ≤ long ps := by
  induction ps with
  | nil => cases h
  | cons q ps ih =>
    have e : long (q :: ps) = 1 + q.length + long ps := by simp only [long, List.map_cons, List.sum_cons]
    rcases List.mem_cons.1 h with rfl | h
    · omega
    · have := ih h; omega
theorem bat_size (p : List UInt8) : (bat p).size = p.length := by
  show p.toArray.size = _
  simp

/-- the loop's relation -/
def RefInv (s : ByteArray) (w : World) (g : Nat) (v x i : Value) (wr : World) : Prop :=
  ∃ (ps : List (List UInt8)) (p : List UInt8) (k : Nat), x = .string ⟨p.toArray⟩ ∧ i = .int .i64 k ∧ k + g = s.size ∧ long ps + p.length ≤ k ∧ loose p ps (s.data.toList.drop k) = loose [] [] s.data.toList ∧ wr.ownsRow w.heap.size 9 1 v ps.length (strCells ps) ∧ Below w.heap.size w wr

theorem ref_key (ps : List (List UInt8)) (A : Option Addr) (cap : Nat) (w : World) (hA : Texts w A (ps.map bat)) (hl : long ps ≤ 1099511627776) :
    Calls Try.prog 17 #[.slice A ps.length cap] w fun e w' => e = .returned (.string ⟨(key ps).toArray⟩) ∧ Below w.heap.size w w' := by
  have h := refkey_calls A cap (ps.map bat) w hA (fun p hp => by
    obtain ⟨q, hq, rfl⟩ := List.mem_map.1 hp
    rw [bat_size]
    have := part_long hq
    unfold maxLen; omega) (by rw [bys_bat]; exact hl)
  rw [bys_bat, List.length_map] at h
  exact h

set_option maxHeartbeats 1000000 in
theorem refparts_calls (s : ByteArray) (w : World) (hs : s.size ≤ 1099511627776) :
    Calls Try.prog 15 #[.string s] w (PartsPost (parts s.data.toList) w) := by
  obtain ⟨i1, hj, hy0, hy1, hy2⟩ := info_parts str_info
  go_enter Try.func15, Try.ntmps15
  go_wp2
  go_loopg [4, 5, 6] s.size (fun g v x i wr => RefInv s w g v x i wr)
  case atStart => exact ⟨[], [], 0, rfl, rfl, by omega, by simp [long], rfl, World.ownsRow_nil _ _ _ _, Below.refl _ _⟩
  case round =>
    obtain ⟨ps, p, k, rfl, rfl, hkg, hpk, hsc, hov, hb⟩ := hrel
    have hkt : k ≤ s.size := by omega
    have hll : ps.length ≤ long ps := by
      have := long_ge (ps.map bat)
      rw [bys_bat, List.length_map] at this
      exact this
    have HK := Lib.hid hkg
    have HS := Lib.hid hsc
    clear hkg hsc
    by_cases hlt : k < s.size
    · have HD := Lib.hid (drop_at s k hlt)
      by_cases c58 : s[k] = 58
      · have t1 : ((s[k].toNat : Int) == 58) = true := by rw [c58]; rfl
        have HC := Lib.hid c58
        clear c58
        go_wp2_with (at_builtin; refine wpList_append_own _ rfl _ _ 27 rfl w.heap.size 9 i1 (.string ⟨#[]⟩) 1 16 Try.underlying27 hj hy0 hy1 hy2 rfl (by decide) _ _ _ rfl (hov.alloc _) ⟨wr.heap.size, 0, none⟩ 1 1 [.string ⟨p.toArray⟩] rfl rfl ?c1 ?c2 ?c3 ?c4 ?c5 ?_)
        case c1 =>
          intro j u hj
          match j, hj with
          | 0, hj => simp at hj; subst hj; simp [Addr.add]
        case c2 => intro u hu; simp at hu; subst hu; rfl
        case c3 => unfold maxLen; omega
        case c4 => omega
        case c5 => have := hb.size; simp; omega
        intro v' w2 hown' hgrow _
        have hb2 := Lib.hid ((hb.alloc hb.size _).grown hgrow (by have := hb.size; simp; omega) (fun k hk => (hov.lt k hk).1))
        have ho2 := Lib.hid (grown_texts ps p hown')
        clear hown' hgrow hov hb
        go_wp2
        go_roundg (gk - 1)
        case rel =>
          refine ⟨ps ++ [p], [], k + 1, rfl, by go_num, by have := HK.out; omega, by rw [long_snoc]; simp; omega, ?_, ho2.out, hb2.out⟩
          have e := HS.out
          rw [HD.out, HC.out, loose_end] at e
          exact e
        case measure => have := HK.out; omega
      · have t1 := ne58 c58
        by_cases c92 : s[k] = 92
        · have t2 : ((s[k].toNat : Int) == 92) = true := by rw [c92]; rfl
          have HC := Lib.hid c92
          clear c58 c92
          by_cases hl2 : k + 1 = s.size
          · have t3 : ((k : Int) + 1 == (s.size : Int)) = true := by simp; omega
            have HL := Lib.hid hl2
            clear hl2
            go_wp2
            go_ret2
            refine ⟨hb, ?_⟩
            have e := HS.out
            rw [HD.out, HC.out, List.drop_eq_nil_of_le (by have := HL.out; simp; have : s.data.size = s.size := rfl; omega), loose_last] at e
            rw [loose_none e.symm]
            rfl
          · have hk2 : k + 1 < s.size := by omega
            have t3 : ((k : Int) + 1 == (s.size : Int)) = false := by simp; omega
            have HE := Lib.hid (drop_at s (k + 1) hk2)
            clear hl2
            go_wp2_with fail
            rw [one_at _ _ s[k + 1] (heap_alloc_new _ _)]
            go_wp2
            go_roundg (gk - 2)
            case rel =>
              refine ⟨ps, p ++ [s[k + 1]], k + 2, str_cat (y := [s[k + 1]]) rfl, by go_num, by have := HK.out; omega, by simp; omega, ?_, hov.alloc _, hb.alloc hb.size _⟩
              have e := HS.out
              rw [HD.out, HC.out, HE.out, loose_mark] at e
              exact e
            case measure => have := HK.out; omega
        · have t2 := ne92 c92
          have HC := Lib.hid (And.intro c58 c92)
          clear c58 c92
          go_wp2_with fail
          rw [one_at _ _ s[k] (heap_alloc_new _ _)]
          go_wp2
          go_roundg (gk - 1)
          case rel =>
            refine ⟨ps, p ++ [s[k]], k + 1, str_cat (y := [s[k]]) rfl, by go_num, by have := HK.out; omega, by simp; omega, ?_, hov.alloc _, hb.alloc hb.size _⟩
            have e := HS.out
            rw [HD.out, loose_byte _ _ _ _ HC.out.1 HC.out.2] at e
            exact e
          case measure => have := HK.out; omega
    · have hlo : loose [] [] s.data.toList = some ps := by
        have e := HS.out
        rw [List.drop_eq_nil_of_le (by simp; have : s.data.size = s.size := rfl; omega)] at e
        exact e.symm
      have HP := Lib.hid (loose_some hlo)
      clear hlo
      obtain ⟨A, cap, hv, hT⟩ := texts_own hov
      have HT := Lib.hid hT
      clear hT hov
      subst hv
      by_cases hke : key ps = s.data.toList
      · have t4 : (key ps == s.toList) = true := by rw [ByteArray.toList_eq, hke]; simp
        have HE := Lib.hid hke
        clear hke
        go_wp2_with fail
        refine (ref_key ps A cap _ HT.out (by omega)).mono ?_
        rintro e w1 ⟨rfl, hb1⟩
        go_wp2
        go_ret2
        refine ⟨below_then hb hb1, ?_⟩
        rw [HP.out, if_pos HE.out]
        exact ⟨A, cap, rfl, HT.out.keep hb1⟩
      · have t4 : (key ps == s.toList) = false := by rw [ByteArray.toList_eq]; simpa using hke
        have HE := Lib.hid hke
        clear hke
        go_wp2_with fail
        refine (ref_key ps A cap _ HT.out (by omega)).mono ?_
        rintro e w1 ⟨rfl, hb1⟩
        go_wp2
        go_ret2
        refine ⟨below_then hb hb1, ?_⟩
        rw [HP.out, if_neg HE.out]
        rfl

end Hs
end Go.Proofs.Ytlgfdgljagmbaaa
