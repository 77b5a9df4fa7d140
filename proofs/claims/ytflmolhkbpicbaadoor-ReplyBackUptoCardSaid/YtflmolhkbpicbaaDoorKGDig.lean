/-
  What digits.size and digits.lay answer, in any world.
-/
import Derived.Test.YtflmolhkbpicbaaDoorRows
import Derived.Test.YtflmolhkbpicbaaDoorKGMth
import Derived.WalkKit
import Derived.WalkSpells
import Derived.WalkLawsBesides
import Derived.Deep.LoopGhost
import Derived.Lib.Hide
import Derived.Laws.Tables
import Derived.Laws.CopyOwn
import Derived.Laws.IdiomStrings
import Derived.Lib.Strings
namespace Go.Proofs.YtflmolhkbpicbaaDoor
open Go.RowKit
namespace Dg

set_option maxRecDepth 100000 in
theorem ret_int {k : IntKind} {a b : Int} (h : a = b) : Ending.returned (.int k a) = .returned (.int k b) := by rw [h]
set_option maxRecDepth 100000 in
theorem neg_u64 (n : Int) (h1 : -9223372036854775808 ≤ n) (h : n < 0) : IntKind.u64.wrap (-IntKind.u64.wrap n) = (n.natAbs : Int) := by
  rw [IntKind.wrap_u64, IntKind.wrap_u64]; omega

set_option maxRecDepth 100000 in
set_option maxHeartbeats 400000 in
theorem size_calls (n : Int) (w : World) (h1 : -9223372036854775808 ≤ n) (h2 : n ≤ 9223372036854775807) :
    Calls Tryd.prog 68 #[.int .i64 n] w fun e w' => e = .returned (.int .u64 n.natAbs) ∧ w = w' := by
  by_cases h : n < 0
  · go_enter Tryd.func68, Tryd.ntmps68
    go_wp2
    go_ret
    exact ⟨ret_int (neg_u64 n h1 h), rfl⟩
  · go_enter Tryd.func68, Tryd.ntmps68
    go_wp2
    go_ret
    exact ⟨ret_int (by omega), rfl⟩

/-- the array, laid from k on -/
def cellsOf (k : Nat) (l : List UInt8) : Array Value := (List.replicate k (Value.int .u8 0) ++ l.map fun c => Value.int .u8 (c.toNat : Int)).toArray

set_option maxRecDepth 100000 in
theorem cells_get (k : Nat) (l : List UInt8) (i : Nat) (hi : i < k) : (cellsOf k l)[i]? = some (Value.int .u8 0) := by
  unfold cellsOf
  rw [List.getElem?_toArray, List.getElem?_append_left (by simpa using hi), List.getElem?_replicate, if_pos hi]

set_option maxRecDepth 100000 in
theorem cells_set (k : Nat) (l : List UInt8) (c : UInt8) (h : 1 ≤ k) : (cellsOf k l).setIfInBounds (k - 1) (Value.int .u8 (c.toNat : Int)) = cellsOf (k - 1) (c :: l) := by
  obtain ⟨j, rfl⟩ : ∃ j, k = j + 1 := ⟨k - 1, by omega⟩
  unfold cellsOf
  rw [List.setIfInBounds_toArray]
  congr 1
  simp [List.replicate_succ']

set_option maxRecDepth 100000 in
theorem dig_val (m : Nat) : (Value.int IntKind.u8 (48 + (m : Int) % 10)) = Value.int .u8 ((dig m).toNat : Int) := by
  rw [dig_toNat]; congr 1

set_option maxRecDepth 100000 in
theorem cells_size (k : Nat) (l : List UInt8) : (cellsOf k l).size = k + l.length := by simp [cellsOf]
set_option maxRecDepth 100000 in
theorem cells_one (k : Nat) (l : List UInt8) : (cellsOf k l).all (·.oneCell') = true := by
  unfold cellsOf
  rw [List.all_toArray, List.all_eq_true]
  intro v hv
  rcases List.mem_append.1 hv with hv | hv
  · rw [List.eq_of_mem_replicate hv]; rfl
  · obtain ⟨c, _, rfl⟩ := List.mem_map.1 hv; rfl
set_option maxRecDepth 100000 in
theorem info20 : (Tryd.prog.info? 93).map (·.size) = some 20 := by kernel_rfl

set_option maxRecDepth 100000 in
/-- two results, the first of which is an array in memory -/
theorem results_two_row {P : Program} {fn : Func} {p q : Tmp} {ty : TypeId} (h : fn.results = #[.cell p ty, .tmp q]) (tmps : Array Value) (w : World) (g : Nat) (t : TypeId) (cs : Array Value) (fr : Nat × Nat) (d : TypeDesc) (x : Value)
    (hp : tmps.getD p undef = .pointer (some ⟨g, 0, none⟩)) (hq : tmps.getD q undef = x) (hg : w.heap[g]? = some (.cells cs t fr))
    (hu : P.underlying ty = some d) (hd : (match d with | .struct _ | .array _ _ => true | _ => false) = true) (hi : (P.info? ty).map (·.size) = some cs.size) :
    (results fn tmps).run P w = .ok (.tuple #[.agg cs, x]) w := by
  have hp' : tmps[p]?.getD undef = .pointer (some ⟨g, 0, none⟩) := by simpa using hp
  have hq' : tmps[q]?.getD undef = x := by simpa using hq
  simp [results, h, hp', hq', asAddr, run_loadVar_row w g t ty cs fr d hg hu hd hi]

set_option maxRecDepth 100000 in
theorem lay_m (N m : Nat) (l : List UInt8) (hN : N ≤ 9223372036854775808) (h : dec N = dec m ++ l) : m ≤ 9223372036854775808 := by
  have a : val (dec N) = N := val_dec N
  rw [h] at a
  have key : ∀ (l : List UInt8) (p : List UInt8), (∀ c ∈ l, isD c = true) → 0 ≤ val p → val p ≤ val (p ++ l) := by
    intro l
    induction l with
    | nil => intro p _ _; simp
    | cons c l ih =>
      intro p hl hp
      have hc := hl c (by simp)
      have e1 : val (p ++ [c]) = 10 * val p + ((c.toNat : Int) - 48) := val_snoc p c
      have hd : 48 ≤ c.toNat := by unfold isD at hc; simp at hc; omega
      have e2 := ih (p ++ [c]) (fun x hx => hl x (by simp [hx])) (by omega)
      rw [List.append_assoc] at e2
      simp only [List.singleton_append] at e2
      omega
  have hl : ∀ c ∈ l, isD c = true := fun c hc => dec_all N c (by rw [h]; simp [hc])
  have b := key l (dec m) hl (by rw [val_dec]; omega)
  rw [val_dec, a] at b
  omega

set_option maxRecDepth 100000 in
theorem lay_end_neg {n : Int} {m g : Nat} {l : List UInt8} (h : g + l.length = 20 ∧ dec n.natAbs = dec m ++ l) (hm : m < 10) (hn : n < 0) : txt n = 45 :: dig m :: l ∧ 20 - (txt n).length = g - 1 - 1 := by
  have e : txt n = 45 :: dig m :: l := by
    unfold txt; rw [if_pos hn, h.2, dec_lt hm]; rfl
  rw [e]; refine ⟨rfl, ?_⟩
  have := h.1
  simp; omega
set_option maxRecDepth 100000 in
theorem lay_end_pos {n : Int} {m g : Nat} {l : List UInt8} (h : g + l.length = 20 ∧ dec n.natAbs = dec m ++ l) (hm : m < 10) (hn : ¬ n < 0) : txt n = dig m :: l ∧ 20 - (txt n).length = g - 1 := by
  have e : txt n = dig m :: l := by
    unfold txt; rw [if_neg hn, h.2, dec_lt hm]; rfl
  rw [e]; refine ⟨rfl, ?_⟩
  have := h.1
  simp; omega

set_option maxRecDepth 100000 in
set_option maxHeartbeats 400000 in
theorem lay_calls (n : Int) (w : World) (h1 : -9223372036854775808 ≤ n) (h2 : n ≤ 9223372036854775807) :
    Calls Tryd.prog 52 #[.int .i64 n] w fun e w' => e = .returned (.tuple #[.agg (cellsOf (20 - (txt n).length) (txt n)), .int .i64 (20 - (txt n).length : Nat)]) ∧ Below w.heap.size w w' := by
  go_enter Tryd.func52, Tryd.ntmps52
  go_wp2
  go_step3
  go_wp2_with (go_at_call 68; refine (size_calls n _ h1 h2).mono ?_; rintro e w' ⟨rfl, rfl⟩)
  go_step3
  go_wp2
  go_loopg [5, 6] 20 (fun g f r wr => ∃ (m : Nat) (l : List UInt8), f = .int .i64 g ∧ r = .int .u64 m ∧ Hid (g + l.length = 20 ∧ dec n.natAbs = dec m ++ l) ∧ wr = (w.alloc (.cells (cellsOf 20 []) 93)).alloc (.cells (cellsOf g l) 93))
  case atStart => exact ⟨n.natAbs, [], rfl, rfl, ⟨rfl, by simp⟩, rfl⟩
  case round =>
    obtain ⟨m, l, rfl, rfl, hm, rfl⟩ := hrel
    have b19 := dec_len19 n.natAbs (by omega)
    have hml := dec_len_pos m
    obtain ⟨hg2, hg20, hmm⟩ : 2 ≤ gk ∧ gk ≤ 20 ∧ m ≤ 9223372036854775808 := by
      obtain ⟨a, b⟩ := hm.out
      have c := lay_m n.natAbs m l (by omega) b
      rw [b, List.length_append] at b19
      exact ⟨by omega, by omega, c⟩
    clear b19 hml
    have hc1 := cells_get gk l (gk - 1) (by omega)
    have hs1 : (cellsOf gk l).setIfInBounds (gk - 1) (Value.int IntKind.u8 (48 + (m : Int) % 10)) = cellsOf (gk - 1) (dig m :: l) := by
      rw [dig_val]; exact cells_set gk l (dig m) (by omega)
    by_cases hten : 10 ≤ m
    · go_wp2
      go_roundg (gk - 1)
      case rel =>
        refine ⟨m / 10, dig m :: l, by go_num, by go_num, ⟨?_, ?_⟩, rfl⟩
        · have := hm.out.1; simp; omega
        · rw [hm.out.2, dec_ge (by omega)]; simp
      case measure => omega
    · by_cases hn : n < 0
      · have hc2 := cells_get (gk - 1) (dig m :: l) (gk - 1 - 1) (by omega)
        have hs2 : (cellsOf (gk - 1) (dig m :: l)).setIfInBounds (gk - 1 - 1) (Value.int IntKind.u8 45) = cellsOf (gk - 1 - 1) (45 :: dig m :: l) := cells_set (gk - 1) (dig m :: l) 45 (by omega)
        have E := Lib.hid (lay_end_neg hm.out (by omega) hn)
        have hz := Lib.hid (show (cellsOf (gk - 1 - 1) (45 :: dig m :: l)).size = 20 by rw [cells_size]; have := hm.out.1; simp; omega)
        go_wp2_with (first | (refine wpList_load_row rfl 93 _ rfl (w.heap.size + 1) rfl 93 (cellsOf (gk - 1 - 1) (45 :: dig m :: l)) (0, 0) _ (heap_alloc2_new _ _ _) Tryd.underlying93 rfl (by rw [hz.out]; exact info20) ?_) | (refine wpList_store_row rfl 93 _ _ rfl w.heap.size (cellsOf (gk - 1 - 1) (45 :: dig m :: l)) rfl rfl 93 (cellsOf 20 []) (heap_alloc2_old _ _ _) (by rw [hz.out]; exact info20) (by rw [hz.out]; rfl) (cells_one _ _) ?_))
        rw [Exit.noGoto_ret]
        refine bodyPost_ret (v := .tuple #[.agg (cellsOf (gk - 1 - 1) (45 :: dig m :: l)), .int .i64 ((gk : Int) - 1 - 1)]) (results_two_row (p := 2) (q := 3) (ty := 93) Tryd.results52 _ _ w.heap.size 93 (cellsOf (gk - 1 - 1) (45 :: dig m :: l)) (0, 0) _ _ rfl rfl (setRow_heap _ _ (cellsOf 20 []) _ _ _ (heap_alloc2_old _ _ _)) Tryd.underlying93 rfl (by rw [hz.out]; exact info20)) rfl ⟨?_, ?_⟩
        · rw [E.out.2, E.out.1, show ((gk - 1 - 1 : Nat) : Int) = (gk : Int) - 1 - 1 from by omega]
        · exact below_setRow (((Below.refl _ _).alloc (Nat.le_refl _) _).alloc (by simp) _) (Nat.le_refl _) _
      · have E := Lib.hid (lay_end_pos hm.out (by omega) hn)
        have hz := Lib.hid (show (cellsOf (gk - 1) (dig m :: l)).size = 20 by rw [cells_size]; have := hm.out.1; simp; omega)
        go_wp2_with (first | (refine wpList_load_row rfl 93 _ rfl (w.heap.size + 1) rfl 93 (cellsOf (gk - 1) (dig m :: l)) (0, 0) _ (heap_alloc2_new _ _ _) Tryd.underlying93 rfl (by rw [hz.out]; exact info20) ?_) | (refine wpList_store_row rfl 93 _ _ rfl w.heap.size (cellsOf (gk - 1) (dig m :: l)) rfl rfl 93 (cellsOf 20 []) (heap_alloc2_old _ _ _) (by rw [hz.out]; exact info20) (by rw [hz.out]; rfl) (cells_one _ _) ?_))
        refine bodyPost_ret (v := .tuple #[.agg (cellsOf (gk - 1) (dig m :: l)), .int .i64 ((gk : Int) - 1)]) (results_two_row (p := 2) (q := 3) (ty := 93) Tryd.results52 _ _ w.heap.size 93 (cellsOf (gk - 1) (dig m :: l)) (0, 0) _ _ rfl rfl (setRow_heap _ _ (cellsOf 20 []) _ _ _ (heap_alloc2_old _ _ _)) Tryd.underlying93 rfl (by rw [hz.out]; exact info20)) rfl ⟨?_, ?_⟩
        · rw [E.out.2, E.out.1, show ((gk - 1 : Nat) : Int) = (gk : Int) - 1 from by omega]
        · exact below_setRow (((Below.refl _ _).alloc (Nat.le_refl _) _).alloc (by simp) _) (Nat.le_refl _) _

end Dg
end Go.Proofs.YtflmolhkbpicbaaDoor
/-
  What digits.Print, digits.read answer, in any world.
-/
namespace Go.Proofs.YtflmolhkbpicbaaDoor
open Go.RowKit
namespace Dg

set_option maxRecDepth 100000 in
theorem alen : Tryd.prog.arrayLen 93 = 20 := by kernel_rfl
set_option maxRecDepth 100000 in
theorem aelem : Tryd.prog.elem 93 = 5 := by kernel_rfl
set_option maxRecDepth 100000 in
theorem asize (w : World) : (Go.sizeOf 5).run Tryd.prog w = .ok 1 w := by kernel_rfl
set_option maxRecDepth 100000 in
theorem arr_slice (w : World) (b k : Nat) (hk : k < 20) : (Instr.sliceAt 93 (.pointer (some ⟨b, 0, none⟩)) (some (.int .i64 (k : Int))) none none).run Tryd.prog w = .ok (.slice (some ⟨b, k, none⟩) (20 - k) (20 - k)) w := by
  rw [run_sliceAt_array_l w 93 ⟨b, 0, none⟩ (by kernel_rfl) .i64 (k : Int) (by omega) (by rw [alen]; omega), aelem, asize]
  simp only [Result.andThen, slicedAt, alen, Int.toNat_natCast]
  rw [if_neg (by omega)]
  simp [Addr.add_lit]
set_option maxRecDepth 100000 in
theorem cells_txt (k : Nat) (l : List UInt8) (j : Nat) (hj : j < l.length) : (cellsOf k l)[k + j]? = some (Value.int .u8 (l[j].toNat : Int)) := by
  unfold cellsOf
  rw [List.getElem?_toArray, List.getElem?_append_right (by simp)]
  simp [hj]
set_option maxRecDepth 100000 in
theorem arr_conv (w : World) (b k : Nat) (l : List UInt8) (t : TypeId) (fr : Nat × Nat) (hk : l.length + k = 20) (h : w.heap[b]? = some (.cells (cellsOf k l) t fr)) :
    (convert 32 9 (.slice (some ⟨b, k, none⟩) (20 - k) (20 - k))).run Tryd.prog w = .ok (.string ⟨l.toArray⟩) w := by
  have e : 20 - k = l.length := by omega
  rw [e]
  refine run_convert_bytes_back w 32 9 5 ⟨b, k, none⟩ l.length l Tryd.underlying32 Tryd.underlying5 Tryd.underlying9 fun j hj => ?_
  rw [Addr.add_lit, cell_of_row w b (k + j) _ t fr h, cells_txt k l j hj]

set_option maxRecDepth 100000 in
set_option maxHeartbeats 400000 in
theorem print_calls (n : Int) (w : World) (h1 : -9223372036854775808 ≤ n) (h2 : n ≤ 9223372036854775807) :
    Calls Tryd.prog 39 #[.int .i64 n] w fun e w' => e = .returned (.string ⟨(txt n).toArray⟩) ∧ Below w.heap.size w w' := by
  have hl := txt_len n h1 h2
  obtain ⟨k, hk⟩ : ∃ k, k = 20 - (txt n).length := ⟨_, rfl⟩
  have hk20 : k < 20 := by omega
  have HK := Lib.hid (show (txt n).length + k = 20 by omega)
  have hlay := Lib.hid (lay_calls n)
  rw [← hk] at hlay
  have hz := Lib.hid (show (cellsOf k (txt n)).size = 20 by rw [cells_size]; omega)
  clear hk hl
  have hsl := fun (w : World) (b : Nat) => arr_slice w b k hk20
  go_enter Tryd.func39, Tryd.ntmps39
  go_wp2_with fail
  refine (hlay.out _ h1 h2).mono ?_
  rintro e w1 ⟨rfl, hb⟩
  go_wp2_with (refine wpList_store_row rfl 93 _ _ rfl w1.heap.size (cellsOf k (txt n)) rfl rfl 93 _ (heap_alloc_new _ _) (by rw [hz.out]; exact info20) (by rw [hz.out]; rfl) (cells_one _ _) ?_)
  rw [arr_conv _ _ _ (txt n) 93 (0, 0) HK.out (setRow_heap _ _ _ _ _ _ (heap_alloc_new _ _))]
  go_wp2
  go_ret
  exact ⟨rfl, below_setRow (hb.alloc hb.size _) hb.size _⟩

end Dg
end Go.Proofs.YtflmolhkbpicbaaDoor
/-
  What digits.read answers, in any world.
-/
namespace Go.Proofs.YtflmolhkbpicbaaDoor
open Go.RowKit
namespace Dg

/-- what is read so far -/
def RdInv (l : List UInt8) (a : Int) : Prop := -9223372036854775808 ≤ a ∧ a ≤ 9223372036854775807 ∧ ((∀ c ∈ l, isD c = true) → a = wrap64 (val l))

set_option maxRecDepth 100000 in
theorem rd_nil : RdInv [] 0 := ⟨by omega, by omega, fun _ => by unfold wrap64; simp [val]⟩
set_option maxRecDepth 100000 in
theorem rd_step {l : List UInt8} {a : Int} (c : UInt8) (h : RdInv l a) : RdInv (l ++ [c]) (wrap64 (wrap64 (a * 10) + ((c.toNat : Int) - 48) % 256)) := by
  refine ⟨(wrap64_bd _).1, (wrap64_bd _).2, fun hl => ?_⟩
  have ha := h.2.2 fun x hx => hl x (by simp [hx])
  have hc := hl c (by simp)
  unfold isD at hc
  simp at hc
  rw [val_snoc, ha]
  generalize val l = v
  unfold wrap64
  omega
set_option maxRecDepth 100000 in
theorem rd_neg {l : List UInt8} {a n : Int} (h : RdInv l a) (h1 : -9223372036854775808 ≤ n) (h2 : n ≤ 9223372036854775807) (ht : txt n = 45 :: l) : wrap64 (-a) = n := by
  have e : body (txt n) = l := by rw [ht]; rfl
  have g : neg (txt n) = true := by rw [ht]; rfl
  rw [body_txt] at e
  rw [neg_txt] at g
  simp at g
  have ha := h.2.2 (by rw [← e]; exact dec_all _)
  rw [← e, val_dec] at ha
  subst ha
  unfold wrap64; omega
set_option maxRecDepth 100000 in
theorem rd_pos {l : List UInt8} {a n : Int} (h : RdInv l a) (h1 : -9223372036854775808 ≤ n) (h2 : n ≤ 9223372036854775807) (ht : txt n = l) (hl : neg l = false) : a = n := by
  rw [← ht, neg_txt] at hl
  simp at hl
  have e : l = dec n.natAbs := by rw [← ht]; unfold txt; rw [if_neg (by omega)]
  have ha := h.2.2 (by rw [e]; exact dec_all _)
  rw [e, val_dec] at ha
  subst ha
  unfold wrap64; omega

def Reads (s : List UInt8) (w : World) (e : Ending) (w' : World) : Prop :=
  ∃ r : Int, e = .returned (.int .i64 r) ∧ -9223372036854775808 ≤ r ∧ r ≤ 9223372036854775807 ∧ (∀ n : Int, -9223372036854775808 ≤ n → n ≤ 9223372036854775807 → txt n = s → r = n) ∧ w = w'

set_option maxRecDepth 100000 in
theorem take_one (s : ByteArray) (k : Nat) (h : k < s.size) : s.data.toList.take (k + 1) = s.data.toList.take k ++ [s[k]] := by
  rw [List.take_succ_eq_append_getElem (by simpa using h)]; rfl
set_option maxRecDepth 100000 in
theorem take_tail (s : ByteArray) (k : Nat) (h : k < (s.extract 1 s.size).size) : (s.data.toList.drop 1).take (k + 1) = (s.data.toList.drop 1).take k ++ [(s.extract 1 s.size)[k]] := by
  have hk : k + 1 < s.size := by simp at h; omega
  rw [List.take_succ_eq_append_getElem (by simp; have : s.data.size = s.size := rfl; omega)]
  congr 2
  simp only [List.getElem_drop, Array.getElem_toList]
  simp only [ByteArray.getElem_eq_getElem_data, ByteArray.data_extract, Array.getElem_extract]
set_option maxRecDepth 100000 in
theorem head_cons (s : ByteArray) (h : 0 < s.size) : s.data.toList = s[0] :: s.data.toList.drop 1 := by
  have h' : 0 < s.data.toList.length := by simpa using h
  rw [List.drop_one]
  cases e : s.data.toList with
  | nil => rw [e] at h'; simp at h'
  | cons c l =>
    have : s[0] = c := by
      have : s[0] = s.data.toList[0] := rfl
      rw [this]; simp [e]
    rw [this]; rfl

set_option maxRecDepth 100000 in
set_option maxHeartbeats 400000 in
theorem read_neg (s : ByteArray) (w : World) (hs : s.size ≤ 20) (h0 : 0 < s.size) (h45 : ((s[0].toNat : Int) == 45) = true) :
    Calls Tryd.prog 84 #[.string s] w (Reads s.data.toList w) := by
  go_enter Tryd.func84, Tryd.ntmps84
  go_wp2
  go_loop [4, 19] (fun nv i => ∃ (k : Nat) (a : Int), k ≤ s.size - 1 ∧ i = .int .i64 k ∧ nv = .int .i64 a ∧ RdInv ((s.data.toList.drop 1).take k) a) (fun _ i => s.size - (intOf i).toNat)
  case atStart => exact ⟨0, 0, by omega, rfl, rfl, rd_nil⟩
  case round =>
    obtain ⟨k, a, hk, rfl, rfl, hinv⟩ := hrel
    have hi1 := hinv.1
    have hi2 := hinv.2.1
    by_cases hlt : k < s.size - 1
    · go_wp2
      go_round
      case rel => exact ⟨k + 1, _, by omega, by go_num, rfl, by rw [take_tail s k (by simp; omega)]; exact rd_step _ hinv⟩
      case measure => simp [intOf]; omega
    · go_wp2
      go_ret
      have e : s.data.toList = 45 :: s.data.toList.drop 1 := by
        have a1 := head_cons s h0
        have a2 : s[0] = 45 := by
          have : s[0].toNat = 45 := by have := beq_iff_eq.1 h45; omega
          exact UInt8.toNat_inj.1 this
        rwa [a2] at a1
      rw [List.take_of_length_le (by simp; have : s.data.size = s.size := rfl; omega)] at hinv
      exact ⟨_, rfl, (wrap64_bd _).1, (wrap64_bd _).2, fun n h1 h2 ht => rd_neg hinv h1 h2 (ht.trans e), rfl⟩

set_option maxRecDepth 100000 in
set_option maxHeartbeats 400000 in
theorem read_pos (s : ByteArray) (w : World) (hs : s.size ≤ 20) (h0 : 0 < s.size) (h45 : ((s[0].toNat : Int) == 45) = false) :
    Calls Tryd.prog 84 #[.string s] w (Reads s.data.toList w) := by
  go_enter Tryd.func84, Tryd.ntmps84
  go_wp2
  go_loop [4, 19] (fun nv i => ∃ (k : Nat) (a : Int), k ≤ s.size ∧ i = .int .i64 k ∧ nv = .int .i64 a ∧ RdInv (s.data.toList.take k) a) (fun _ i => s.size - (intOf i).toNat)
  case atStart => exact ⟨0, 0, by omega, rfl, rfl, rd_nil⟩
  case round =>
    obtain ⟨k, a, hk, rfl, rfl, hinv⟩ := hrel
    have hi1 := hinv.1
    have hi2 := hinv.2.1
    by_cases hlt : k < s.size
    · go_wp2
      go_round
      case rel => exact ⟨k + 1, _, by omega, by go_num, rfl, by rw [take_one s k hlt]; exact rd_step _ hinv⟩
      case measure => simp [intOf]; omega
    · go_wp2
      go_ret
      have e : neg s.data.toList = false := by
        rw [head_cons s h0]
        show (s[0] == 45) = false
        have : ¬ s[0].toNat = 45 := by have := beq_eq_false_iff_ne.1 h45; omega
        rw [beq_eq_false_iff_ne]; intro hh; rw [hh] at this; exact this rfl
      rw [List.take_of_length_le (by simp; have : s.data.size = s.size := rfl; omega)] at hinv
      exact ⟨_, rfl, hi1, hi2, fun n h1 h2 ht => rd_pos hinv h1 h2 ht e, rfl⟩

set_option maxRecDepth 100000 in
theorem txt_ne (n : Int) : txt n ≠ [] := by
  unfold txt
  split
  · simp
  · exact dec_ne _

set_option maxRecDepth 100000 in
set_option maxHeartbeats 400000 in
theorem read_none (s : ByteArray) (w : World) (h0 : s.size = 0) :
    Calls Tryd.prog 84 #[.string s] w (Reads s.data.toList w) := by
  have e : s.data.toList = [] := List.length_eq_zero_iff.1 h0
  have H := Lib.hid e
  clear e
  go_enter Tryd.func84, Tryd.ntmps84
  go_wp2
  go_loop [4, 19] (fun nv i => i = .int .i64 0 ∧ nv = .int .i64 0) (fun _ _ => 0)
  case atStart => exact ⟨rfl, rfl⟩
  case round =>
    obtain ⟨rfl, rfl⟩ := hrel
    go_wp2
    go_ret
    exact ⟨0, rfl, by omega, by omega, fun n _ _ ht => absurd (ht.trans H.out) (txt_ne n), rfl⟩

set_option maxRecDepth 100000 in
theorem read_calls (s : ByteArray) (w : World) (hs : s.size ≤ 20) :
    Calls Tryd.prog 84 #[.string s] w (Reads s.data.toList w) := by
  by_cases h0 : s.size = 0
  · exact read_none s w h0
  · have h0 : 0 < s.size := by omega
    cases h : ((s[0].toNat : Int) == 45) with
    | true => exact read_neg s w hs h0 h
    | false => exact read_pos s w hs h0 h

end Dg
end Go.Proofs.YtflmolhkbpicbaaDoor
/-
  What digits.Parse and digits.Upto answer, in any world.
-/
namespace Go.Proofs.YtflmolhkbpicbaaDoor
open Go.RowKit
namespace Dg

/-- the number whose text s is, if there is one -/
def num? (s : List UInt8) : Option Int := if -9223372036854775808 ≤ worth s ∧ worth s ≤ 9223372036854775807 ∧ txt (worth s) = s then some (worth s) else none

set_option maxRecDepth 100000 in
theorem num_txt {n : Int} (h1 : -9223372036854775808 ≤ n) (h2 : n ≤ 9223372036854775807) : num? (txt n) = some n := by
  unfold num?; rw [worth_txt, if_pos ⟨h1, h2, rfl⟩]
set_option maxRecDepth 100000 in
theorem num_some {s : List UInt8} {n : Int} (h : num? s = some n) : -9223372036854775808 ≤ n ∧ n ≤ 9223372036854775807 ∧ txt n = s := by
  unfold num? at h
  split at h
  · rename_i g; cases h; exact g
  · cases h
set_option maxRecDepth 100000 in
theorem num_none {s : List UInt8} (h : num? s = none) (n : Int) (h1 : -9223372036854775808 ≤ n) (h2 : n ≤ 9223372036854775807) : txt n ≠ s := by
  intro e; rw [← e, num_txt h1 h2] at h; cases h

def upto? (s : List UInt8) (a b : Int) : Option Int := match num? s with
  | some n => if a ≤ n ∧ n ≤ b then some n else none
  | none => none

set_option maxRecDepth 100000 in
theorem upto_in {s : List UInt8} {a b n : Int} (h : num? s = some n) (h1 : a ≤ n) (h2 : n ≤ b) : upto? s a b = some n := by
  unfold upto?; rw [h]; exact if_pos ⟨h1, h2⟩
set_option maxRecDepth 100000 in
theorem upto_out {s : List UInt8} {a b n : Int} (h : num? s = some n) (h1 : n < a ∨ b < n) : upto? s a b = none := by
  unfold upto?; rw [h]; exact if_neg (by omega)
set_option maxRecDepth 100000 in
theorem upto_no {s : List UInt8} {a b : Int} (h : num? s = none) : upto? s a b = none := by
  unfold upto?; rw [h]

set_option maxRecDepth 100000 in
/-- one call behind the other -/
theorem below_then {w w1 w2 : World} (h : Below w.heap.size w w1) (k : Below w1.heap.size w1 w2) : Below w.heap.size w w2 := h.trans (k.mono h.size)

/-- what is told of a number that may be none -/
def told (o : Option Int) : Ending := .returned (.tuple #[.int .i64 (o.getD 0), .bool o.isSome])

set_option maxRecDepth 100000 in
theorem eq_yes (s : ByteArray) (l : List UInt8) (h : l = s.data.toList) : (l == s.toList) = true := by
  rw [Lib.toList_data]; simpa using h
set_option maxRecDepth 100000 in
theorem eq_no (s : ByteArray) (l : List UInt8) (h : l ≠ s.data.toList) : (l == s.toList) = false := by
  rw [Lib.toList_data]; simpa using h

set_option maxRecDepth 100000 in
set_option maxHeartbeats 400000 in
theorem parse_some (s : ByteArray) (w : World) (n : Int) (h : num? s.data.toList = some n) :
    Calls Tryd.prog 75 #[.string s] w fun e w' => e = .returned (.tuple #[.int .i64 n, .bool true]) ∧ Below w.heap.size w w' := by
  obtain ⟨h1, h2, h3⟩ := num_some h
  have hl := txt_len n h1 h2
  have hs : s.size ≤ 20 := by rw [h3] at hl; exact hl.1
  have H3 := Lib.hid h3
  clear h h3 hl
  go_enter Tryd.func75, Tryd.ntmps75
  go_wp2_with fail
  refine (read_calls s _ hs).mono ?_
  rintro e w1 ⟨r, rfl, hr1, hr2, hr, rfl⟩
  obtain rfl := hr n h1 h2 H3.out
  clear hr
  have hq := eq_yes s (txt r) H3.out
  go_wp2_with fail
  refine (print_calls r _ hr1 hr2).mono ?_
  rintro e w1 ⟨rfl, hb⟩
  go_wp2
  go_ret2
  exact ⟨rfl, hb⟩

set_option maxRecDepth 100000 in
set_option maxHeartbeats 400000 in
theorem parse_none (s : ByteArray) (w : World) (h : num? s.data.toList = none) :
    Calls Tryd.prog 75 #[.string s] w fun e w' => e = .returned (.tuple #[.int .i64 0, .bool false]) ∧ Below w.heap.size w w' := by
  have H := Lib.hid h
  clear h
  by_cases hs : s.size ≤ 20
  · go_enter Tryd.func75, Tryd.ntmps75
    go_wp2_with fail
    refine (read_calls s _ hs).mono ?_
    rintro e w1 ⟨r, rfl, hr1, hr2, hr, rfl⟩
    clear hr
    have hq := eq_no s (txt r) (num_none H.out r hr1 hr2)
    go_wp2_with fail
    refine (print_calls r _ hr1 hr2).mono ?_
    rintro e w1 ⟨rfl, hb⟩
    go_wp2
    go_ret2
    exact ⟨rfl, hb⟩
  · have hs' : 20 < s.size := by omega
    go_enter Tryd.func75, Tryd.ntmps75
    go_wp2
    go_ret2
    exact ⟨rfl, Below.refl _ _⟩

set_option maxRecDepth 100000 in
theorem parse_calls (s : ByteArray) (w : World) :
    Calls Tryd.prog 75 #[.string s] w fun e w' => e = told (num? s.data.toList) ∧ Below w.heap.size w w' := by
  cases h : num? s.data.toList with
  | some n => exact parse_some s w n h
  | none => exact parse_none s w h

set_option maxRecDepth 100000 in
set_option maxHeartbeats 400000 in
theorem upto_calls (s : ByteArray) (a b : Int) (w : World) :
    Calls Tryd.prog 74 #[.string s, .int .i64 a, .int .i64 b] w fun e w' => e = told (upto? s.data.toList a b) ∧ Below w.heap.size w w' := by
  cases h : num? s.data.toList with
  | some n =>
    have H := Lib.hid h
    clear h
    by_cases h1 : n < a
    · have E := Lib.hid (upto_out (b := b) H.out (Or.inl h1))
      go_enter Tryd.func74, Tryd.ntmps74
      go_wp2_with fail
      refine (parse_some s _ n H.out).mono ?_
      rintro e w1 ⟨rfl, hb⟩
      go_wp2
      go_ret2
      rw [E.out]
      exact ⟨rfl, hb⟩
    · by_cases h2 : b < n
      · have E := Lib.hid (upto_out (a := a) H.out (Or.inr h2))
        go_enter Tryd.func74, Tryd.ntmps74
        go_wp2_with fail
        refine (parse_some s _ n H.out).mono ?_
        rintro e w1 ⟨rfl, hb⟩
        go_wp2
        go_ret2
        rw [E.out]
        exact ⟨rfl, hb⟩
      · have E := Lib.hid (upto_in (a := a) (b := b) H.out (by omega) (by omega))
        go_enter Tryd.func74, Tryd.ntmps74
        go_wp2_with fail
        refine (parse_some s _ n H.out).mono ?_
        rintro e w1 ⟨rfl, hb⟩
        go_wp2
        go_ret2
        rw [E.out]
        exact ⟨rfl, hb⟩
  | none =>
    have E := Lib.hid (upto_no (a := a) (b := b) h)
    have H := Lib.hid h
    clear h
    go_enter Tryd.func74, Tryd.ntmps74
    go_wp2_with fail
    refine (parse_none s _ H.out).mono ?_
    rintro e w1 ⟨rfl, hb⟩
    go_wp2
    go_ret2
    rw [E.out]
    exact ⟨rfl, hb⟩

end Dg
end Go.Proofs.YtflmolhkbpicbaaDoor
/-
  What the document's own Print answers, in any world.
-/
namespace Go.Proofs.YtflmolhkbpicbaaDoor
open Go.RowKit
namespace Dg

set_option maxRecDepth 100000 in
theorem dig_conv (w : World) (n : Int) (h1 : 0 ≤ n) (h2 : n < 10) :
    (convert 32 9 (.slice (some ⟨w.heap.size, 0, none⟩) 1 1)).run Tryd.prog (w.alloc (.cells #[Value.int IntKind.u8 (48 + n)] 5)) = .ok (.string ⟨(txt n).toArray⟩) (w.alloc (.cells #[Value.int IntKind.u8 (48 + n)] 5)) := by
  have e : txt n = [dig n.toNat] := by
    unfold txt; rw [if_neg (by omega), dec_lt (by omega)]
    congr 2; omega
  rw [e]
  refine run_convert_bytes_back _ 32 9 5 ⟨w.heap.size, 0, none⟩ 1 [dig n.toNat] Tryd.underlying32 Tryd.underlying5 Tryd.underlying9 fun j hj => ?_
  obtain rfl : j = 0 := by simpa using hj
  rw [Addr.add_lit, cell_of_row _ _ _ _ _ _ (heap_alloc_new _ _)]
  have hd := dig_toNat n.toNat
  have : (((dig n.toNat).toNat : Nat) : Int) = 48 + n := by omega
  simp [this]

set_option maxRecDepth 100000 in
set_option maxHeartbeats 400000 in
theorem refprint_dig (n : Int) (w : World) (h1 : 0 ≤ n) (h2 : n < 10) :
    Calls Tryd.prog 41 #[.int .i64 n] w fun e w' => e = .returned (.string ⟨(txt n).toArray⟩) ∧ Below w.heap.size w w' := by
  go_enter Tryd.func41, Tryd.ntmps41
  go_wp2
  rw [dig_conv w n h1 h2]
  go_wp2
  go_ret
  exact ⟨rfl, (Below.refl _ _).alloc (Nat.le_refl _) _⟩

set_option maxRecDepth 100000 in
theorem txt_ten (n : Int) (h : 10 ≤ n) : txt n = txt (n / 10) ++ txt (n % 10) := by
  unfold txt
  rw [if_neg (by omega), if_neg (by omega), if_neg (by omega), dec_ge (by omega), dec_lt (n := (n % 10).natAbs) (by omega)]
  have e1 : (n / 10).natAbs = n.natAbs / 10 := by omega
  have e2 : dig (n % 10).natAbs = dig n.natAbs := by
    unfold dig; congr 2; omega
  rw [e1, e2]
set_option maxRecDepth 100000 in
theorem txt_neg1 (n : Int) (h : n < 0) : txt n = 45 :: txt (-n) := by
  unfold txt
  rw [if_pos h, if_neg (by omega)]
  congr 2; omega
set_option maxRecDepth 100000 in
theorem txt_mten (n : Int) (h : n ≤ -10) : txt n = txt (n.tdiv 10) ++ txt (-(n.tmod 10)) := by
  obtain ⟨m, rfl⟩ : ∃ m : Int, n = -m := ⟨-n, by omega⟩
  have e1 : (-m).tdiv 10 = -(m / 10) := by rw [Int.neg_tdiv, Int.tdiv_eq_ediv_of_nonneg (by omega)]
  have e2 : -((-m).tmod 10) = m % 10 := by rw [Int.neg_tmod, Int.tmod_eq_emod_of_nonneg (by omega)]; omega
  rw [e1, e2, txt_neg1 (-m) (by omega), txt_neg1 (-(m / 10)) (by omega), Int.neg_neg, Int.neg_neg, txt_ten m (by omega)]
  rfl

set_option maxRecDepth 100000 in
theorem ret_cat {l x y : List UInt8} (h : l = x ++ y) : Ending.returned (.string (ByteArray.mk x.toArray ++ ByteArray.mk y.toArray)) = .returned (.string ⟨l.toArray⟩) := by
  rw [ByteArray.mk_append_mk, h]
set_option maxRecDepth 100000 in
theorem mten_bd (n : Int) (k : Nat) (h : n ≤ -10) (h1 : -9223372036854775808 ≤ n) (hk : n.natAbs < k + 1) : -9223372036854775808 ≤ n.tdiv 10 ∧ n.tdiv 10 ≤ 0 ∧ (n.tdiv 10).natAbs < k ∧ 0 ≤ -(n.tmod 10) ∧ -(n.tmod 10) < 10 := by
  obtain ⟨m, rfl⟩ : ∃ m : Int, n = -m := ⟨-n, by omega⟩
  have e1 : (-m).tdiv 10 = -(m / 10) := by rw [Int.neg_tdiv, Int.tdiv_eq_ediv_of_nonneg (by omega)]
  have e2 : -((-m).tmod 10) = m % 10 := by rw [Int.neg_tmod, Int.tmod_eq_emod_of_nonneg (by omega)]; omega
  rw [e1, e2]
  omega

set_option maxRecDepth 100000 in
set_option maxHeartbeats 400000 in
theorem refprint_calls (k : Nat) : ∀ (n : Int) (w : World), n.natAbs < k → -9223372036854775808 ≤ n → n ≤ 9223372036854775807 →
    Calls Tryd.prog 41 #[.int .i64 n] w fun e w' => e = .returned (.string ⟨(txt n).toArray⟩) ∧ Below w.heap.size w w' := by
  induction k with
  | zero => intro n w h; omega
  | succ k ih0 =>
    intro n w hk h1 h2
    have ih := Lib.hid ih0
    clear ih0
    by_cases c1 : 0 ≤ n
    · by_cases c2 : n < 10
      · exact refprint_dig n w c1 c2
      · have E := Lib.hid (txt_ten n (by omega))
        have l1 := (txt_len (n / 10) (by omega) (by omega)).1
        have l2 := (txt_len (n % 10) (by omega) (by omega)).1
        go_enter Tryd.func41, Tryd.ntmps41
        go_wp2_with fail
        refine (ih.out (n / 10) _ (by omega) (by omega) (by omega)).mono ?_
        rintro e w1 ⟨rfl, hb1⟩
        go_wp2_with fail
        refine (refprint_dig (n % 10) _ (by omega) (by omega)).mono ?_
        rintro e w2 ⟨rfl, hb2⟩
        go_wp2
        go_ret
        exact ⟨ret_cat E.out, below_then hb1 hb2⟩
    · by_cases c2 : -10 < n
      · have E := Lib.hid (txt_neg1 n (by omega))
        have l1 := (txt_len (-n) (by omega) (by omega)).1
        go_enter Tryd.func41, Tryd.ntmps41
        go_wp2_with fail
        refine (refprint_dig (-n) _ (by omega) (by omega)).mono ?_
        rintro e w1 ⟨rfl, hb1⟩
        go_wp2
        go_ret
        exact ⟨ret_cat (x := [45]) E.out, hb1⟩
      · have E := Lib.hid (txt_mten n (by omega))
        have q1 : -9223372036854775808 ≤ n.tdiv 10 ∧ n.tdiv 10 ≤ 0 ∧ (n.tdiv 10).natAbs < k ∧ 0 ≤ -(n.tmod 10) ∧ -(n.tmod 10) < 10 := mten_bd n k (by omega) h1 hk
        obtain ⟨q1, q2, q3, q4, q5⟩ := q1
        have l1 := (txt_len (n.tdiv 10) (by omega) (by omega)).1
        have l2 := (txt_len (-(n.tmod 10)) (by omega) (by omega)).1
        go_enter Tryd.func41, Tryd.ntmps41
        go_wp2_with fail
        refine (ih.out (n.tdiv 10) _ q3 (by omega) (by omega)).mono ?_
        rintro e w1 ⟨rfl, hb1⟩
        go_wp2_with fail
        refine (refprint_dig (-(n.tmod 10)) _ (by omega) (by omega)).mono ?_
        rintro e w2 ⟨rfl, hb2⟩
        go_wp2
        go_ret
        exact ⟨ret_cat E.out, below_then hb1 hb2⟩

set_option maxRecDepth 100000 in
theorem refprint (n : Int) (w : World) (h1 : -9223372036854775808 ≤ n) (h2 : n ≤ 9223372036854775807) :
    Calls Tryd.prog 41 #[.int .i64 n] w fun e w' => e = .returned (.string ⟨(txt n).toArray⟩) ∧ Below w.heap.size w w' :=
  refprint_calls (n.natAbs + 1) n w (by omega) h1 h2

end Dg
end Go.Proofs.YtflmolhkbpicbaaDoor
/-
  What the document's own Parse and Upto answer, in any world.
-/
namespace Go.Proofs.YtflmolhkbpicbaaDoor
open Go.RowKit
namespace Dg

/-- what is read so far by the document's loop -/
def RpInv (l : List UInt8) (a : Int) : Prop := -9223372036854775808 ≤ a ∧ a ≤ 9223372036854775807 ∧ a = wrap64 (val (body l))

def RefParses (s : List UInt8) (w : World) (e : Ending) (w' : World) : Prop :=
  (∃ c : Int, e = .returned (.tuple #[.int .i64 c, .bool (num? s).isSome]) ∧ -9223372036854775808 ≤ c ∧ c ≤ 9223372036854775807 ∧ (∀ n, num? s = some n → c = n)) ∧ Below w.heap.size w w'

set_option maxRecDepth 100000 in
theorem body_snoc (l : List UInt8) (c : UInt8) (h : l = [] → c ≠ 45) : body (l ++ [c]) = body l ++ [c] := by
  cases l with
  | nil => simp [body, h rfl]
  | cons x l =>
    by_cases hx : x = 45
    · simp [body, hx]
    · simp [body, hx]
set_option maxRecDepth 100000 in
theorem rp_nil : RpInv [] 0 := ⟨by omega, by omega, by unfold wrap64; simp [val, body]⟩
set_option maxRecDepth 100000 in
theorem rp_minus {a : Int} (h : RpInv [] a) : RpInv [45] a := h
set_option maxRecDepth 100000 in
theorem rp_step {l : List UInt8} {a : Int} (c : UInt8) (h : RpInv l a) (hc : l = [] → c ≠ 45) : RpInv (l ++ [c]) (wrap64 (wrap64 (wrap64 (10 * a) + (c.toNat : Int)) - 48)) := by
  refine ⟨(wrap64_bd _).1, (wrap64_bd _).2, ?_⟩
  rw [body_snoc l c hc, val_snoc, h.2.2]
  generalize val (body l) = v
  unfold wrap64
  omega
set_option maxRecDepth 100000 in
theorem rp_neg {s : List UInt8} {a n : Int} (h : RpInv s a) (hg : neg s = true) (hn : num? s = some n) : wrap64 (-a) = n := by
  obtain ⟨h1, h2, h3⟩ := num_some hn
  subst h3
  rw [neg_txt] at hg
  simp at hg
  have ha := h.2.2
  rw [body_txt, val_dec] at ha
  subst ha
  unfold wrap64; omega
set_option maxRecDepth 100000 in
theorem rp_pos {s : List UInt8} {a n : Int} (h : RpInv s a) (hg : neg s = false) (hn : num? s = some n) : a = n := by
  obtain ⟨h1, h2, h3⟩ := num_some hn
  subst h3
  rw [neg_txt] at hg
  simp at hg
  have ha := h.2.2
  rw [body_txt, val_dec] at ha
  subst ha
  unfold wrap64; omega
set_option maxRecDepth 100000 in
theorem rp_not {s : List UInt8} (p q : List UInt8) (c : UInt8) (h : s = p ++ c :: q) (hp : p = [] → c ≠ 45) (hc : isD c = false) : num? s = none := by
  cases hn : num? s with
  | none => rfl
  | some n =>
    exfalso
    obtain ⟨h1, h2, h3⟩ := num_some hn
    have hb : c ∈ body s := by
      rw [h]
      cases p with
      | nil => simp [body, hp rfl]
      | cons x p =>
        by_cases hx : x = 45
        · simp [body, hx]
        · simp [body, hx]
    rw [← h3, body_txt] at hb
    have := dec_all _ _ hb
    rw [hc] at this; cases this
set_option maxRecDepth 100000 in
theorem rp_end (s : ByteArray) {r : Int} (h1 : -9223372036854775808 ≤ r) (h2 : r ≤ 9223372036854775807) (h : ∀ n, num? s.data.toList = some n → r = n) : (txt r == s.toList) = (num? s.data.toList).isSome := by
  rw [Lib.toList_data]
  cases hn : num? s.data.toList with
  | none => simpa using num_none hn r h1 h2
  | some n => have := h n hn; subst this; simpa using (num_some hn).2.2
set_option maxRecDepth 100000 in
theorem split_at (s : ByteArray) (k : Nat) (h : k < s.size) : s.data.toList = s.data.toList.take k ++ s[k] :: s.data.toList.drop (k + 1) := by
  have e := List.take_append_drop (k + 1) s.data.toList
  rw [take_one s k h] at e
  rw [List.append_assoc] at e
  exact e.symm
set_option maxRecDepth 100000 in
theorem take_nil (s : ByteArray) (k : Nat) (h : k < s.size) (e : s.data.toList.take k = []) : k = 0 := by
  have := congrArg List.length e
  simp at this
  rcases this with h' | h'
  · exact h'
  · rw [show s.size = s.data.size from rfl, h'] at h; simp at h
set_option maxRecDepth 100000 in
theorem notD_lt (c : UInt8) (h : (c.toNat : Int) < 48) : isD c = false := by unfold isD; simp; omega
set_option maxRecDepth 100000 in
theorem notD_gt (c : UInt8) (h : 57 < (c.toNat : Int)) : isD c = false := by unfold isD; simp; omega

set_option maxRecDepth 100000 in
set_option maxHeartbeats 1000000 in
theorem refparse_neg (s : ByteArray) (w : World) (hs : s.size ≤ 20) (h0 : 1 ≤ s.size) (h45 : ((s[0].toNat : Int) == 45) = true) :
    Calls Tryd.prog 46 #[.string s] w (RefParses s.data.toList w) := by
  have hc0 := head_cons s (by omega)
  have a2 : s[0] = 45 := UInt8.toNat_inj.1 (by have := beq_iff_eq.1 h45; show s[0].toNat = 45; omega)
  rw [a2] at hc0
  have HC := Lib.hid hc0
  clear a2 hc0
  go_enter Tryd.func46, Tryd.ntmps46
  go_wp2_with fail
  go_loop [4, 5] (fun nv i => ∃ (k : Nat) (a : Int), k ≤ s.size ∧ i = .int .i64 k ∧ nv = .int .i64 a ∧ RpInv (s.data.toList.take k) a) (fun _ i => s.size - (intOf i).toNat)
  case atStart => exact ⟨0, 0, by omega, rfl, rfl, rp_nil⟩
  case round =>
    obtain ⟨k, a, hk, rfl, rfl, hinv⟩ := hrel
    have hi1 := hinv.1
    have hi2 := hinv.2.1
    by_cases hlt : k < s.size
    · by_cases hk0 : k = 0
      · subst hk0
        go_wp2
        refine ⟨⟨1, a, by omega, rfl, rfl, ?_⟩, by simp [intOf]; omega⟩
        rw [HC.out]
        exact hinv
      · have hk1 : ((k : Int) == 0) = false := beq_eq_false_iff_ne.2 (by omega)
        by_cases hd1 : (s[k].toNat : Int) < 48
        · have N := Lib.hid (rp_not _ _ _ (split_at s k hlt) (fun e => absurd (take_nil s k hlt e) hk0) (notD_lt _ hd1))
          go_wp2
          go_ret2
          exact ⟨⟨0, by rw [N.out]; rfl, by omega, by omega, fun n hn => by rw [N.out] at hn; cases hn⟩, Below.refl _ _⟩
        · by_cases hd2 : 57 < (s[k].toNat : Int)
          · have N := Lib.hid (rp_not _ _ _ (split_at s k hlt) (fun e => absurd (take_nil s k hlt e) hk0) (notD_gt _ hd2))
            go_wp2
            go_ret2
            exact ⟨⟨0, by rw [N.out]; rfl, by omega, by omega, fun n hn => by rw [N.out] at hn; cases hn⟩, Below.refl _ _⟩
          · go_wp2
            refine ⟨⟨k + 1, _, by omega, by go_num, rfl, ?_⟩, by simp [intOf]; omega⟩
            rw [take_one s k hlt]
            exact rp_step _ hinv (fun e => absurd (take_nil s k hlt e) hk0)
    · have R : ∀ n, num? s.data.toList = some n → wrap64 (-a) = n := fun n hn => by
        rw [List.take_of_length_le (by simp; have : s.data.size = s.size := rfl; omega)] at hinv
        exact rp_neg hinv (by rw [HC.out]; rfl) hn
      have HR := Lib.hid R
      clear R
      have hb := wrap64_bd (-a)
      go_wp2_with fail
      refine (refprint (wrap64 (-a)) _ hb.1 hb.2).mono ?_
      rintro e w1 ⟨rfl, hb1⟩
      have E := Lib.hid (rp_end s hb.1 hb.2 HR.out)
      go_wp2
      go_ret2
      exact ⟨⟨_, by rw [← E.out]; rfl, hb.1, hb.2, HR.out⟩, hb1⟩

set_option maxRecDepth 100000 in
set_option maxHeartbeats 1000000 in
theorem refparse_pos (s : ByteArray) (w : World) (hs : s.size ≤ 20) (h0 : 1 ≤ s.size) (h45 : ((s[0].toNat : Int) == 45) = false) :
    Calls Tryd.prog 46 #[.string s] w (RefParses s.data.toList w) := by
  have a1 : s[0] ≠ 45 := fun h => by rw [h] at h45; revert h45; decide
  have HC := Lib.hid (show neg s.data.toList = false by rw [head_cons s (by omega)]; exact beq_eq_false_iff_ne.2 a1)
  have HA := Lib.hid a1
  clear a1
  go_enter Tryd.func46, Tryd.ntmps46
  go_wp2_with fail
  go_loop [4, 5] (fun nv i => ∃ (k : Nat) (a : Int), k ≤ s.size ∧ i = .int .i64 k ∧ nv = .int .i64 a ∧ RpInv (s.data.toList.take k) a) (fun _ i => s.size - (intOf i).toNat)
  case atStart => exact ⟨0, 0, by omega, rfl, rfl, rp_nil⟩
  case round =>
    obtain ⟨k, a, hk, rfl, rfl, hinv⟩ := hrel
    have hi1 := hinv.1
    have hi2 := hinv.2.1
    by_cases hlt : k < s.size
    · have hp : s.data.toList.take k = [] → s[k] ≠ 45 := fun e => by
        obtain rfl := take_nil s k hlt e
        exact HA.out
      have HP := Lib.hid hp
      clear hp
      cases hk0 : ((k : Int) == 0)
      all_goals
        by_cases hd1 : (s[k].toNat : Int) < 48
        · have N := Lib.hid (rp_not _ _ _ (split_at s k hlt) HP.out (notD_lt _ hd1))
          go_wp2
          go_ret2
          exact ⟨⟨0, by rw [N.out]; rfl, by omega, by omega, fun n hn => by rw [N.out] at hn; cases hn⟩, Below.refl _ _⟩
        · by_cases hd2 : 57 < (s[k].toNat : Int)
          · have N := Lib.hid (rp_not _ _ _ (split_at s k hlt) HP.out (notD_gt _ hd2))
            go_wp2
            go_ret2
            exact ⟨⟨0, by rw [N.out]; rfl, by omega, by omega, fun n hn => by rw [N.out] at hn; cases hn⟩, Below.refl _ _⟩
          · go_wp2
            refine ⟨⟨k + 1, _, by omega, by go_num, rfl, ?_⟩, by simp [intOf]; omega⟩
            rw [take_one s k hlt]
            exact rp_step _ hinv HP.out
    · have R : ∀ n, num? s.data.toList = some n → a = n := fun n hn => by
        rw [List.take_of_length_le (by simp; have : s.data.size = s.size := rfl; omega)] at hinv
        exact rp_pos hinv HC.out hn
      have HR := Lib.hid R
      clear R
      have hb : -9223372036854775808 ≤ a ∧ a ≤ 9223372036854775807 := ⟨hi1, hi2⟩
      go_wp2_with fail
      refine (refprint (a) _ hb.1 hb.2).mono ?_
      rintro e w1 ⟨rfl, hb1⟩
      have E := Lib.hid (rp_end s hb.1 hb.2 HR.out)
      go_wp2
      go_ret2
      exact ⟨⟨_, by rw [← E.out]; rfl, hb.1, hb.2, HR.out⟩, hb1⟩

set_option maxRecDepth 100000 in
set_option maxHeartbeats 400000 in
theorem refparse_out (s : ByteArray) (w : World) (h : s.size < 1 ∨ 20 < s.size) :
    Calls Tryd.prog 46 #[.string s] w (RefParses s.data.toList w) := by
  have N := Lib.hid (show num? s.data.toList = none by
    cases hn : num? s.data.toList with
    | none => rfl
    | some n =>
      obtain ⟨h1, h2, h3⟩ := num_some hn
      have hl := txt_len n h1 h2
      rw [h3] at hl
      have : s.data.toList.length = s.size := rfl
      omega)
  rcases h with h | h
  all_goals
    go_enter Tryd.func46, Tryd.ntmps46
    go_wp2
    go_ret2
    exact ⟨⟨0, by rw [N.out]; rfl, by omega, by omega, fun n hn => by rw [N.out] at hn; cases hn⟩, Below.refl _ _⟩

set_option maxRecDepth 100000 in
theorem refparse (s : ByteArray) (w : World) :
    Calls Tryd.prog 46 #[.string s] w (RefParses s.data.toList w) := by
  by_cases h1 : s.size < 1
  · exact refparse_out s w (Or.inl h1)
  · by_cases h2 : 20 < s.size
    · exact refparse_out s w (Or.inr h2)
    · have h0 : 1 ≤ s.size := by omega
      cases h : ((s[0].toNat : Int) == 45) with
      | true => exact refparse_neg s w (by omega) h0 h
      | false => exact refparse_pos s w (by omega) h0 h

set_option maxRecDepth 100000 in
theorem refparse_some (s : ByteArray) (w : World) (n : Int) (h : num? s.data.toList = some n) :
    Calls Tryd.prog 46 #[.string s] w fun e w' => e = .returned (.tuple #[.int .i64 n, .bool true]) ∧ Below w.heap.size w w' :=
  (refparse s w).mono fun e w' ⟨⟨c, he, _, _, hc⟩, hb⟩ => ⟨by rw [he, h, hc n h]; rfl, hb⟩
set_option maxRecDepth 100000 in
theorem refparse_none (s : ByteArray) (w : World) (h : num? s.data.toList = none) :
    Calls Tryd.prog 46 #[.string s] w fun e w' => ∃ c : Int, (e = .returned (.tuple #[.int .i64 c, .bool false]) ∧ -9223372036854775808 ≤ c ∧ c ≤ 9223372036854775807) ∧ Below w.heap.size w w' :=
  (refparse s w).mono fun e w' ⟨⟨c, he, h1, h2, _⟩, hb⟩ => ⟨c, ⟨by rw [he, h]; rfl, h1, h2⟩, hb⟩

end Dg
end Go.Proofs.YtflmolhkbpicbaaDoor
