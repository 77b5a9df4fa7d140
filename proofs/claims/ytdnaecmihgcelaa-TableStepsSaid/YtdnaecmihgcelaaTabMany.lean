/-
  The walk of TableMany.
-/
import Derived.Test.YtdnaecmihgcelaaTabP
import Derived.Laws.IdiomStrings
namespace Go.Proofs.Ytdnaecmihgcelaa.Tb
open Go.RowKit

def nm (i : Nat) : ByteArray := ⟨#[107, UInt8.ofNat (48 + i / 10), UInt8.ofNat (48 + i % 10)]⟩
theorem toNat_digit (d : Nat) (h : d < 200) : (UInt8.ofNat (48 + d)).toNat = 48 + d := by
  rw [UInt8.toNat_ofNat']
  omega
theorem nm_size (i : Nat) : (nm i).size ≤ maxLen := by show 3 ≤ maxLen; decide
/-- each second one, below k, is gone -/
def gone (a k j : Nat) : Bool := !(decide (j % 2 = a % 2) && decide (j < k))
theorem gone_start (a j : Nat) : gone a (a % 2) j = true := by
  unfold gone
  by_cases h : j % 2 = a % 2
  · have : ¬ j < a % 2 := by omega
    simp [this]
  · simp [h]
theorem gone_self {a k : Nat} : gone a k k = true := by simp [gone]
theorem gone_next {a k j : Nat} (hk : k % 2 = a % 2) : (gone a k j && decide (j ≠ k)) = gone a (k + 2) j := by
  unfold gone
  by_cases h : j % 2 = a % 2
  · by_cases h1 : j < k
    · have : j < k + 2 := by omega
      simp [h, h1, this]
    · by_cases h2 : j = k
      · simp [h2, hk]
      · have : ¬ j < k + 2 := by omega
        simp [h, h1, h2, this]
  · have : j ≠ k := fun e => h (e ▸ hk)
    simp [h, this]
theorem gone_end {a k j : Nat} (h : j < k) : gone a k j = decide (¬ j % 2 = a % 2) := by
  unfold gone
  simp [h]
theorem nm_inj {i j : Nat} (hi : i < 1000) (hj : j < 1000) (h : nm i = nm j) : i = j := by
  unfold nm at h
  injection h with h
  injection h with h
  simp only [List.cons.injEq, and_true, true_and] at h
  have h1 := congrArg UInt8.toNat h.1
  have h2 := congrArg UInt8.toNat h.2
  rw [toNat_digit _ (by omega), toNat_digit _ (by omega)] at h1 h2
  omega

theorem getv_mem {key : ByteArray} {v : Int} : ∀ {l : PL}, (l.map (·.1)).Nodup → (key, v) ∈ l → getv l key = v
  | [], _, h => by simp at h
  | x :: l, hn, h => by
    rw [List.map_cons, List.nodup_cons] at hn
    rcases List.mem_cons.1 h with rfl | h
    · simp [getv]
    · have hne : ¬ x.1 = key := fun e => hn.1 (by rw [e]; exact List.mem_map_of_mem (f := (·.1)) h)
      have := getv_mem hn.2 h
      unfold getv at this ⊢
      rw [List.find?_cons_of_neg (by simpa using hne)]
      exact this
theorem has_mem {key : ByteArray} {v : Int} {l : PL} (h : (key, v) ∈ l) : has l key = true := has_iff.2 ⟨_, h, rfl⟩

def lst (m : Nat) (P : Nat → Bool) : PL := ((List.range m).filter P).map fun j => (nm j, (j : Int))
theorem lst_mem {m : Nat} {P : Nat → Bool} {i : Nat} (hm : m ≤ 100) (hi : i < 100) : has (lst m P) (nm i) = (decide (i < m) && P i) := by
  cases hb : (decide (i < m) && P i) with
  | true =>
    simp only [Bool.and_eq_true, decide_eq_true_eq] at hb
    exact has_mem (v := (i : Int)) (List.mem_map.2 ⟨i, List.mem_filter.2 ⟨List.mem_range.2 hb.1, hb.2⟩, rfl⟩)
  | false =>
    rw [has_false]
    intro e he hk
    obtain ⟨j, hj, rfl⟩ := List.mem_map.1 he
    obtain ⟨h1, h2⟩ := List.mem_filter.1 hj
    have := nm_inj (by have := List.mem_range.1 h1; omega) (by omega) hk
    subst this
    rw [h2] at hb
    simp [List.mem_range.1 h1] at hb
theorem lst_nodup {m : Nat} {P : Nat → Bool} (hm : m ≤ 100) : ((lst m P).map (·.1)).Nodup := by
  unfold lst
  rw [List.map_map]
  show List.Pairwise _ _
  rw [List.pairwise_map]
  refine List.Pairwise.imp_of_mem (R := fun a b => a ≠ b) ?_ (List.nodup_range.filter _)
  intro i j hi hj hne he
  have h1 := List.mem_range.1 (List.mem_filter.1 hi).1
  have h2 := List.mem_range.1 (List.mem_filter.1 hj).1
  exact hne (nm_inj (by omega) (by omega) he)
theorem lst_get {m : Nat} {P : Nat → Bool} {i : Nat} (hm : m ≤ 100) (hi : i < m) (hp : P i = true) : getv (lst m P) (nm i) = (i : Int) :=
  getv_mem (lst_nodup hm) (List.mem_map.2 ⟨i, List.mem_filter.2 ⟨List.mem_range.2 hi, hp⟩, rfl⟩)
theorem lst_del {m : Nat} {P : Nat → Bool} {i : Nat} (hm : m ≤ 100) (hi : i < 100) : del (lst m P) (nm i) = lst m (fun j => P j && decide (j ≠ i)) := by
  unfold del lst
  rw [List.filter_map, List.filter_filter]
  congr 1
  refine List.filter_congr fun j hj => ?_
  have := List.mem_range.1 hj
  simp only [Function.comp]
  rw [Bool.and_comm]
  congr 1
  by_cases e : j = i
  · simp [e]
  · have : ¬ nm j = nm i := fun h => e (nm_inj (by omega) (by omega) h)
    simp [e, this]
theorem lst_congr {m : Nat} {P P' : Nat → Bool} (h : ∀ j, j < m → P j = P' j) : lst m P = lst m P' := by
  unfold lst
  congr 1
  exact List.filter_congr fun j hj => h j (List.mem_range.1 hj)
theorem lst_all_len (m : Nat) : (lst m (fun _ => true)).length = m := by
  unfold lst
  rw [List.length_map, List.filter_eq_self.2 (fun _ _ => rfl), List.length_range]
theorem lst_all_succ (m : Nat) : lst (m + 1) (fun _ => true) = lst m (fun _ => true) ++ [(nm m, (m : Int))] := by
  unfold lst
  rw [List.filter_eq_self.2 (fun _ _ => rfl), List.filter_eq_self.2 (fun _ _ => rfl), List.range_succ, List.map_append]
  rfl
theorem put_next {m k : Nat} (hm : m ≤ 100) (hk : k < m) : put m (lst k (fun _ => true)) (nm k) (k : Int) = (lst (k + 1) (fun _ => true), true) := by
  unfold put
  rw [lst_mem (by omega) (by omega), lst_all_len, if_neg (by simp), if_pos hk, lst_all_succ]
theorem put_more {m : Nat} (_hm : m ≤ 100) : put m (lst m (fun _ => true)) ⟨#[109, 111, 114, 101]⟩ 1 = (lst m (fun _ => true), false) := by
  have : has (lst m (fun _ => true)) ⟨#[109, 111, 114, 101]⟩ = false := by
    rw [has_false]
    intro e he hk
    obtain ⟨j, hj, rfl⟩ := List.mem_map.1 he
    have := congrArg ByteArray.size hk
    simp [nm, ByteArray.size] at this
  unfold put
  rw [this, lst_all_len, if_neg (by simp), if_neg (by omega)]

theorem two_bytes (w : World) (x y : Nat) (hx : x < 200) (hy : y < 200) : (convert 71 9 (.slice (some ⟨w.heap.size, 0, none⟩) 2 2)).run Try.prog (w.alloc (.cells #[.int .u8 (48 + (x : Int)), .int .u8 (48 + (y : Int))] 5)) = .ok (.string ⟨#[UInt8.ofNat (48 + x), UInt8.ofNat (48 + y)]⟩) (w.alloc (.cells #[.int .u8 (48 + (x : Int)), .int .u8 (48 + (y : Int))] 5)) := by
  refine run_convert_bytes_back _ 71 9 5 ⟨w.heap.size, 0, none⟩ 2 [UInt8.ofNat (48 + x), UInt8.ofNat (48 + y)] Try.underlying71 Try.underlying5 Try.underlying9 fun j hj => ?_
  have hadd : ((⟨w.heap.size, 0, none⟩ : Addr).add j) = ⟨w.heap.size, j, none⟩ := by unfold Addr.add; split <;> simp_all
  rw [hadd, cell_of_row _ _ _ _ _ _ (heap_alloc_new w _)]
  have : j < 2 := by simpa using hj
  match j, this with
  | 0, _ => simp only [List.getElem_cons_zero]; rw [toNat_digit x hx]; rfl
  | 1, _ => simp only [List.getElem_cons_succ, List.getElem_cons_zero]; rw [toNat_digit y hy]; rfl

theorem name_calls (i : Nat) (hi : i < 1000) (w : World) : Calls Try.prog 27 #[.int .i64 (i : Nat)] w fun e w' => e = .returned (.string (nm i)) ∧ Below w.heap.size w w' := by
  have hcv := two_bytes w (i / 10) (i % 10) (by omega) (by omega)
  have e1 : ((i / 10 : Nat) : Int) = (i : Int) / 10 := by omega
  have e2 : ((i % 10 : Nat) : Int) = (i : Int) % 10 := by omega
  rw [e1, e2] at hcv
  clear e1 e2
  go_enter Try.func27, Try.ntmps27
  go_wp2_with fail
  go_ret
  refine ⟨congrArg (fun s => Ending.returned (.string s)) ?_, (Below.refl _ _).alloc (Nat.le_refl _) _⟩
  unfold nm
  rw [UInt8.ofNat_add, UInt8.ofNat_add]
  rfl

set_option maxHeartbeats 4000000 in
theorem many_law (n a : Nat) (hn : n < 256) (ha : a < 256) (w : World) : Calls Try.prog 8 #[.int .u8 (n : Nat), .int .u8 (a : Nat)] w fun e w' => e = .returned (.bool true) ∧ Below w.heap.size w w' := by
  obtain ⟨M, hM⟩ : ∃ M : Nat, M = 1 + n % 100 := ⟨_, rfl⟩
  have eM : (1 : Int) + (n : Int) % 100 = (M : Int) := by omega
  have hM1 : 1 ≤ M ∧ M ≤ 100 := by omega
  have cl : clipR (M : Int) = M := by unfold clipR; omega
  have CL := Lib.hid cl
  clear cl hM
  go_enter Try.func8, Try.ntmps8
  go_wp2_with fail
  refine (mNew (M : Int) (by omega) (Below.refl w.heap.size w)).mono ?_
  rintro e w1 ⟨t, rfl, h1, -⟩
  rw [CL.out] at h1
  have H1 := Lib.hid h1
  clear h1 eM
  go_wp2_with fail
  go_loopw [7] (fun i wr => ∃ k : Nat, k ≤ M ∧ i = .int .i64 (k : Nat) ∧ Hid (Mine w wr t M (lst k (fun _ => true)))) (fun i _ => M - (intOf i).toNat)
  case atStart => exact ⟨0, Nat.zero_le _, rfl, H1.out⟩
  case round =>
    obtain ⟨k, hk, rfl, HK⟩ := hrel
    by_cases hlt : k < M
    · go_wp2_with fail
      refine (name_calls k (by omega) _).mono ?_
      rintro e w2 ⟨rfl, hb⟩
      have H2 := Lib.hid (HK.out.below hb)
      clear hb
      go_wp2_with fail
      refine (mPut H2.out (nm k) (nm_size k) (k : Int)).mono ?_
      rw [put_next hM1.2 hlt]
      rintro e w3 ⟨rfl, h3, -⟩
      have H3 := Lib.hid h3
      clear h3
      go_wp2_with fail
      go_roundw
      case rel => exact ⟨k + 1, by omega, by go_num, H3⟩
      case measure => simp [intOf]; omega
    · obtain rfl : k = M := by omega
      go_wp2_with fail
      refine (mPut HK.out ⟨#[109, 111, 114, 101]⟩ (by decide) 1).mono ?_
      rw [put_more hM1.2]
      rintro e w3 ⟨rfl, h3, -⟩
      have H3 := Lib.hid h3
      clear h3
      go_wp2_with fail
      have hlen := mLen H3.out
      rw [lst_all_len] at hlen
      refine hlen.mono ?_
      rintro e w4 ⟨rfl, he4⟩
      subst he4
      clear hlen
      go_wp2_with fail
      have H4 : Hid (Mine w w3 t k (lst k (gone a (a % 2)))) := Lib.hid (by
        rw [lst_congr (P' := fun _ => true) (fun j _ => gone_start a j)]
        exact H3.out)
      clear H3 HK H1
      go_loopw [8] (fun i wr => ∃ c : Nat, c % 2 = a % 2 ∧ c ≤ k + 1 ∧ i = .int .i64 (c : Nat) ∧ Hid (Mine w wr t k (lst k (gone a c)))) (fun i _ => k + 2 - (intOf i).toNat)
      case atStart => exact ⟨a % 2, by omega, by omega, by simp, H4.out⟩
      case round =>
        obtain ⟨c, hc, hck, rfl, HC⟩ := hrel
        by_cases hlt2 : c < k
        · go_wp2_with fail
          refine (name_calls c (by omega) _).mono ?_
          rintro e w5 ⟨rfl, hb⟩
          have H5 := Lib.hid (HC.out.below hb)
          clear hb
          go_wp2_with fail
          refine (mDelete H5.out (nm c) (nm_size c)).mono ?_
          rw [lst_mem hM1.2 (by omega), gone_self, decide_eq_true hlt2, lst_del hM1.2 (by omega), lst_congr (P' := gone a (c + 2)) (fun j _ => gone_next hc)]
          rintro e w6 ⟨rfl, h6, -⟩
          have H6 := Lib.hid h6
          clear h6
          go_wp2_with fail
          go_roundw
          case rel => exact ⟨c + 2, by omega, by omega, by go_num, H6⟩
          case measure => simp [intOf]; omega
        · have H7 : Hid (Mine w wr t k (lst k (fun j => decide (¬ j % 2 = a % 2)))) := Lib.hid (by
            have := HC.out
            rw [lst_congr (P' := fun j => decide (¬ j % 2 = a % 2)) (fun j hj => gone_end (by omega))] at this
            exact this)
          clear HC H4
          go_wp2_with fail
          go_loopw [9] (fun i wr => ∃ c : Nat, c ≤ k ∧ i = .int .i64 (c : Nat) ∧ Hid (Mine w wr t k (lst k (fun j => decide (¬ j % 2 = a % 2))))) (fun i _ => k - (intOf i).toNat)
          case atStart => exact ⟨0, Nat.zero_le _, rfl, H7.out⟩
          case round =>
            obtain ⟨b, hb, rfl, HB⟩ := hrel
            by_cases hlt3 : b < k
            · go_wp2_with fail
              refine (name_calls b (by omega) _).mono ?_
              rintro e w8 ⟨rfl, hb8⟩
              have H8 := Lib.hid (HB.out.below hb8)
              clear hb8
              go_wp2_with fail
              by_cases hp : b % 2 = a % 2
              · refine (mPeek H8.out (nm b) (nm_size b)).mono ?_
                rw [lst_mem hM1.2 (by omega), decide_eq_false (p := ¬ b % 2 = a % 2) (by omega), Bool.and_false]
                rintro e w9 ⟨rfl, h9, -⟩
                have H9 := Lib.hid h9
                have t1 : ((b : Int) % 2 != (a : Int) % 2) = false := by simp; omega
                clear h9
                go_wp2_with fail
                go_roundw
                case rel => exact ⟨b + 1, by omega, by go_num, H9⟩
                case measure => simp [intOf]; omega
              · refine (mPeek H8.out (nm b) (nm_size b)).mono ?_
                rw [lst_mem hM1.2 (by omega), decide_eq_true (p := ¬ b % 2 = a % 2) hp, decide_eq_true hlt3, lst_get hM1.2 hlt3 (decide_eq_true hp)]
                rintro e w9 ⟨rfl, h9, -⟩
                have H9 := Lib.hid h9
                have t1 : ((b : Int) % 2 != (a : Int) % 2) = true := by simp; omega
                clear h9
                go_wp2_with fail
                go_roundw
                case rel => exact ⟨b + 1, by omega, by go_num, H9⟩
                case measure => simp [intOf]; omega
            · go_wp2_with fail
              refine (known_calls _).mono ?_
              rintro e w8 ⟨rfl, hb8⟩
              have H8 := Lib.hid (HB.out.below hb8)
              clear hb8
              go_wp2_with fail
              go_ret
              exact ⟨rfl, H8.out.1⟩

end Go.Proofs.Ytdnaecmihgcelaa.Tb
