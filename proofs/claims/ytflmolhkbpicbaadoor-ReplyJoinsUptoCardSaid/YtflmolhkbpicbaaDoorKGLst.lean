/-
  What the document's own list answers, in any world.
-/
import Derived.Test.YtflmolhkbpicbaaDoorKRpyNum
import Derived.Laws.Tables
namespace Go.Proofs.YtflmolhkbpicbaaDoor.Ry
open Go.RowKit

set_option maxRecDepth 100000 in
theorem bytes_err (s : ByteArray) (q : Nat) (c : Int) (w : World) (hq : q = 8 ∨ q = 9) :
    Calls Tryd.prog 33 #[tv s (q : Nat), .int .i64 c] w fun e w' => e = .returned (.tuple #[tv s (q : Nat), .string ⟨#[]⟩]) ∧ Below w.heap.size w w' := by
  unfold tv
  have e1 : (((q : Nat) : Int) != 0) = true := by rw [bne_iff_ne]; omega
  go_enter Tryd.func33, Tryd.ntmps33
  go_wp2_with fail
  obtain ⟨hb, x1, x2⟩ := two_boxes w 57 57 #[.string s, .int .i64 (q : Nat)] #[.string s, .int .i64 (q : Nat)]
  refine ret_t2 Tryd.results33 rfl rfl rfl x2 ?_
  exact ⟨rfl, hb⟩

set_option maxRecDepth 100000 in
theorem _root_.Go.Proofs.YtflmolhkbpicbaaDoor.SRow.set {w : World} {B : Nat} {v : Value} {l : List ByteArray} (h : SRow w B v l) {g : Nat} (hg : g < B) (j : Nat) (x : Value) : SRow (w.setCell ⟨g, j, none⟩ x) B v l := by
  refine ⟨h.1, ?_⟩
  rcases h.2 with h2 | ⟨k, cap, cur, hv, hB, r, rest⟩
  · exact .inl h2
  · exact .inr ⟨k, cap, cur, hv, hB, by rw [Below.heap_setCell _ _ _ _ (show k ≠ g by omega)]; exact r, rest⟩
set_option maxRecDepth 100000 in
theorem Box.grown {w w' : World} {g B : Nat} {t : TypeId} {cs : Array Value} {v : Value} {l : List ByteArray} (h : Box w g t cs) (ho : SRow w B v l) (hg : w.grownBy w' v.ownBlock) (hB : g < B) : Box w' g t cs := by
  unfold Box at *
  rw [hg.block g (Array.getElem?_eq_some_iff.1 h).1 (fun e => by have := (World.ownsRow.lt ho g (by first | exact e | exact e.symm)).1; omega)]
  exact h
set_option maxRecDepth 100000 in
theorem Box.grown2 {w w0 w2 : World} {g B : Nat} {t : TypeId} {cs : Array Value} {v : Value} {l : List ByteArray} (h : Box w g t cs) (ho : SRow w0 B v l) (hg : w.grownBy w2 v.ownBlock) (hB : w0.heap.size ≤ g) : Box w2 g t cs := by
  unfold Box at *
  rw [hg.block g (Array.getElem?_eq_some_iff.1 h).1 (fun e => by have := (World.ownsRow.lt ho g (by first | exact e | exact e.symm)).2; omega)]
  exact h
/-- texts, or an error -/
def RdL (R : Rd (List Bytes)) (B : Nat) (e : Ending) (w' : World) : Prop := match R with
  | .ok l r => ∃ A c, e = .returned (.tuple #[tv (bat r) 0, .slice A l.length c]) ∧ SRow w' B (.slice A l.length c) (l.map bat)
  | .err k => ∃ s A n c, e = .returned (.tuple #[tv s (k : Nat), .slice A n c])

set_option maxRecDepth 100000 in
theorem list_err (s : ByteArray) (q : Nat) (c : Int) (w : World) (hq : q = 8 ∨ q = 9) :
    Calls Tryd.prog 34 #[tv s (q : Nat), .int .i64 c] w fun e w' => e = .returned (.tuple #[tv s (q : Nat), .slice none 0 0]) ∧ Below w.heap.size w w' := by
  unfold tv
  have e1 : (((q : Nat) : Int) == 0) = false := by rw [beq_eq_false_iff_ne]; omega
  go_enter Tryd.func34, Tryd.ntmps34
  go_wp2_with fail
  obtain ⟨hb, x1, x2⟩ := two_boxes w 57 57 #[.string s, .int .i64 (q : Nat)] #[.string ⟨#[]⟩, .int .i64 0]
  generalize (w.alloc (.cells #[.string s, .int .i64 (q : Nat)] 57)).alloc (.cells #[.string ⟨#[]⟩, .int .i64 0] 57) = W0 at hb x1 x2 ⊢
  have HB := Lib.hid hb
  have X2 := Lib.hid x2
  have c0 := x1.cell 0
  have c1 := x1.cell 1
  have r0 := x2.cell 0
  have r1 := x2.cell 1
  have z0 := x2.free 0
  have z1 := x2.free 1
  simp only [List.getElem?_toArray, List.getElem?_cons_zero, List.getElem?_cons_succ] at c0 c1 r0 r1
  clear hb x1 x2
  go_loopw [6, 7] (fun v i wr => v = .slice none 0 0 ∧ i = .int .i64 0 ∧ wr = W0) (fun _ _ _ => 0)
  case atStart => exact ⟨rfl, rfl, rfl⟩
  case round =>
    obtain ⟨rfl, rfl, hw0⟩ := hrel
    subst hw0
    by_cases i1 : 0 < c
    · go_wp2_with fail
      refine ret_t2 Tryd.results34 rfl rfl rfl ((X2.out.set 0 _).set 1 _) ?_
      exact ⟨rfl, (HB.out.setCell (by simp) _).setCell (by simp) _⟩
    · go_wp2_with fail
      refine ret_t2 Tryd.results34 rfl rfl rfl ((X2.out.set 0 _).set 1 _) ?_
      exact ⟨rfl, (HB.out.setCell (by simp) _).setCell (by simp) _⟩
set_option maxRecDepth 100000 in
/-- steps of a list -/
theorem list_end (ps : List Bytes) (s : Bytes) : listR 0 ps s = .ok ps s := rfl
set_option maxRecDepth 100000 in
theorem list_none (n : Nat) (ps : List Bytes) : listR (n + 1) ps [] = .err 8 := rfl
set_option maxRecDepth 100000 in
theorem list_wrong {n : Nat} {ps : List Bytes} {c : UInt8} {s : Bytes} (h : c ≠ 36) : listR (n + 1) ps (c :: s) = .err 9 := by simp [listR, h]
set_option maxRecDepth 100000 in
theorem list_num {n : Nat} {ps : List Bytes} {s : Bytes} {q : Nat} (h : numR 0 1099511627776 s = .err q) : listR (n + 1) ps (36 :: s) = .err q := by simp [listR, h]
set_option maxRecDepth 100000 in
theorem list_byt {n : Nat} {ps : List Bytes} {s u : Bytes} {q : Nat} {k : Int} (h : numR 0 1099511627776 s = .ok k u) (h2 : bytesR k.toNat u = .err q) : listR (n + 1) ps (36 :: s) = .err q := by simp [listR, h, h2]
set_option maxRecDepth 100000 in
theorem list_step {n : Nat} {ps : List Bytes} {s u t r : Bytes} {k : Int} (h : numR 0 1099511627776 s = .ok k u) (h2 : bytesR k.toNat u = .ok t r) : listR (n + 1) ps (36 :: s) = listR n (ps ++ [t]) r := by simp [listR, h, h2]
set_option maxRecDepth 100000 in
theorem num_k {lo hi : Int} (hlo : lo ≤ 0) (hhi : 0 ≤ hi) {s : Bytes} {q : Nat} (h : numR lo hi s = .err q) : q = 8 ∨ q = 9 := ((num_mono hlo hhi s []).2 q h).1
set_option maxRecDepth 100000 in
theorem bytes_k {n : Nat} {s : Bytes} {q : Nat} (h : bytesR n s = .err q) : q = 8 ∨ q = 9 := ((bytes_mono n s []).2 q h).1
/-- the loop of list -/
def LsInv (s : ByteArray) (n : Nat) (R : Rd (List Bytes)) (w : World) (v i : Value) (wr : World) : Prop :=
  ∃ (k : Nat) (ps : List Bytes) (s2 : ByteArray) (x : Int), i = .int .i64 (k : Nat) ∧ k ≤ n ∧ SRow wr (w.heap.size + 2) v (ps.map bat) ∧ Box wr w.heap.size 57 #[.string s2, .int .i64 x] ∧ Box wr (w.heap.size + 1) 57 #[.string ⟨#[]⟩, .int .i64 0] ∧ Below w.heap.size w wr
    ∧ ((x = 0 ∧ listR (n - k) ps s2.data.toList = R ∧ ps.length + s2.size ≤ s.size) ∨ ∃ q : Nat, (q = 8 ∨ q = 9) ∧ x = (q : Nat) ∧ R = .err q)

set_option maxHeartbeats 4000000 in
set_option maxRecDepth 100000 in
theorem list_calls (s : ByteArray) (n : Nat) (w : World) (hs : s.size ≤ 65536) (hn : n ≤ 1099511627776) :
    Calls Tryd.prog 34 #[tv s 0, .int .i64 (n : Nat)] w fun e w' => RdL (listR n [] s.data.toList) w.heap.size e w' ∧ Below w.heap.size w w' := by
  unfold tv
  generalize hR : listR n [] s.data.toList = R
  have HR := Lib.hid hR
  clear hR
  go_enter Tryd.func34, Tryd.ntmps34
  go_wp2_with fail
  obtain ⟨hb, x1, x2⟩ := two_boxes w 57 57 #[.string s, .int .i64 0] #[.string ⟨#[]⟩, .int .i64 0]
  generalize (w.alloc (.cells #[.string s, .int .i64 0] 57)).alloc (.cells #[.string ⟨#[]⟩, .int .i64 0] 57) = W0 at hb x1 x2 ⊢
  go_loopw [6, 7] (fun v i wr => LsInv s n R w v i wr) (fun _ i _ => n - (intOf i).toNat)
  case atStart => exact ⟨0, [], s, 0, rfl, Nat.zero_le _, SRow.nil _ _, x1, x2, hb, .inl ⟨rfl, HR.out, by simp⟩⟩
  case round =>
    clear hb x1 x2
    obtain ⟨k, ps, s2, x, rfl, hk, hS, x1, x2, hb, hx⟩ := hrel
    obtain ⟨V, n0, vc, rfl, hn0⟩ := hS.form
    rw [List.length_map] at hn0
    have HN0 := Lib.hid hn0
    have HS := Lib.hid hS
    have HB := Lib.hid hb
    have X1 := Lib.hid x1
    have X2 := Lib.hid x2
    have c0 := x1.cell 0
    have c1 := x1.cell 1
    simp only [List.getElem?_toArray, List.getElem?_cons_zero, List.getElem?_cons_succ] at c0 c1
    clear hS hb x1 x2 hn0 HR
    rcases hx with ⟨rfl, hR, hsz⟩ | ⟨q, hq, rfl, hR⟩
    · by_cases hkn : k = n
      · have i1 : ¬ (k : Int) < (n : Int) := by omega
        have HE : Hid (R = .ok ps s2.data.toList) := Lib.hid (by rw [← hR, hkn, Nat.sub_self]; rfl)
        clear hR hkn
        have r0 := X2.out.cell 0
        have r1 := X2.out.cell 1
        have z0 := X2.out.free 0
        have z1 := X2.out.free 1
        simp only [List.getElem?_toArray, List.getElem?_cons_zero, List.getElem?_cons_succ] at r0 r1
        go_wp2_with fail
        refine ret_t2 Tryd.results34 rfl rfl rfl ((X2.out.set 0 _).set 1 _) ?_
        rw [HE.out]
        refine ⟨⟨V, vc, ?_, ?_⟩, (HB.out.setCell (by simp) _).setCell (by simp) _⟩
        · rw [bat_back, ← HN0.out]
          rfl
        · rw [← HN0.out]
          exact ((HS.out.set (by omega) _ _).set (by omega) _ _).lower (by omega)
      · have i1 : (k : Int) < (n : Int) := by omega
        obtain ⟨m, hm⟩ : ∃ m, n - k = m + 1 := ⟨n - k - 1, by omega⟩
        rw [hm] at hR
        have HR := Lib.hid hR
        have HM := Lib.hid hm
        clear hR hm hkn
        have E2 := text_eq s2 [] _ rfl
        by_cases h0 : s2.data.toList = []
        · rw [decide_eq_true h0] at E2
          have HE : Hid (R = .err 8) := Lib.hid (by rw [← HR.out, h0]; rfl)
          clear h0 HR
          go_wp2_with fail
          refine (fail_calls s2 8 _).mono ?_
          rintro e w1 ⟨rfl, hb1⟩
          have X5 := Lib.hid (X2.out.keep hb1)
          have HB1 := Lib.hid (HB.out.trans (hb1.mono HB.out.size))
          have r0 := X5.out.cell 0
          have r1 := X5.out.cell 1
          have z0 := X5.out.free 0
          have z1 := X5.out.free 1
          simp only [List.getElem?_toArray, List.getElem?_cons_zero, List.getElem?_cons_succ] at r0 r1
          clear hb1 X1 X2 HB
          go_wp2_with fail
          refine ret_t2 Tryd.results34 rfl rfl rfl ((X5.out.set 0 _).set 1 _) ?_
          rw [HE.out]
          exact ⟨⟨_, _, _, _, rfl⟩, (HB1.out.setCell (by simp) _).setCell (by simp) _⟩
        · rw [decide_eq_false h0] at E2
          have hpos : 0 < s2.size := List.length_pos_iff.2 h0
          have hcons := drop_at s2 0 hpos
          rw [List.drop_zero] at hcons
          have HC := Lib.hid hcons
          have i2 : (0 : Int) < (s2.size : Int) := by omega
          clear h0 hcons
          by_cases h36 : s2[0] = 36
          · have t1 : ((s2[0].toNat : Int) != 36) = false := by rw [h36]; rfl
            have HTL : Hid ((s2.extract 1 s2.size).data.toList = s2.data.toList.drop 1) := Lib.hid (by rw [extract_drop])
            have hsz1 : (s2.extract 1 s2.size).size = s2.size - 1 := by
              show (s2.extract 1 s2.size).data.toList.length = _
              rw [HTL.out, List.length_drop]; rfl
            have HSZ := Lib.hid hsz
            have HR2 : Hid (listR (m + 1) ps (36 :: s2.data.toList.drop 1) = R) := Lib.hid (by rw [← HR.out, HC.out, h36]; rfl)
            have NC := fun w => number_calls (s2.extract 1 s2.size) 0 1099511627776 w (by omega) (by omega) (by omega) (by omega) (by omega)
            rw [HTL.out] at NC
            clear h36 HR HC hsz hsz1
            cases hq : numR 0 1099511627776 (s2.data.toList.drop 1) with
            | err q =>
              rw [hq] at NC
              have HE : Hid (R = .err q) := Lib.hid (by rw [← HR2.out]; exact list_num hq)
              have hqq := num_k (by omega) (by omega) hq
              have HQQ := Lib.hid hqq
              clear hq hqq HR2
              go_wp2_with fail
              refine (NC _).mono ?_
              rintro e w1 ⟨⟨s3, c, rfl⟩, hb1⟩
              have X4 := Lib.hid (X1.out.keep hb1)
              have X5 := Lib.hid (X2.out.keep hb1)
              have HB1 := Lib.hid (HB.out.trans (hb1.mono HB.out.size))
              have S1 := Lib.hid (HS.out.below hb1)
              clear hb1 NC HS X1 X2 HB
              go_wp2_with fail
              refine (bytes_err s3 q c _ HQQ.out).mono ?_
              rintro e w2 ⟨rfl, hb2⟩
              have S2 := Lib.hid (S1.out.alloc (.cells #[.string s3, .int .i64 (q : Nat)] 57))
              have X4 := Lib.hid (X4.out.alloc (.cells #[.string s3, .int .i64 (q : Nat)] 57))
              have X5 := Lib.hid (X5.out.alloc (.cells #[.string s3, .int .i64 (q : Nat)] 57))
              have HB1 := Lib.hid (HB1.out.alloc HB1.out.size (.cells #[.string s3, .int .i64 (q : Nat)] 57))
              clear S1
              have HLN : Hid ((ps.map bat).length ≤ 1048576) := Lib.hid (by rw [List.length_map]; have := HSZ.out; omega)
              have S3 := Lib.hid (S2.out.below hb2)
              have X6 := Lib.hid (X4.out.keep hb2)
              have X7 := Lib.hid (X5.out.keep hb2)
              have HB2 := Lib.hid (HB1.out.trans (hb2.mono HB1.out.size))
              clear hb2 S2 X4 X5 HB1
              go_wp2_with (at_builtin; refine wpList_append_str rfl _ _ rfl (w.heap.size + 2) _ (ps.map bat) rfl ((S3.out.alloc _).alloc _) (w2.heap.size + 1) (bat []) rfl (by simpa using heap_alloc_new (w2.alloc _) _) HLN.out ?c5 ?_)
              case c5 => have := X7.out.lt; simp; omega
              intro v3 w10 ho10 hg10
              have XV := Lib.hid (((Box.new w2 _ _).alloc _).grown2 S3.out hg10 (Nat.le_refl _))
              have X8 := Lib.hid (((X6.out.alloc _).alloc _).grown ((S3.out.alloc _).alloc _) hg10 (by omega))
              have X9 := Lib.hid (((X7.out.alloc _).alloc _).grown ((S3.out.alloc _).alloc _) hg10 (by omega))
              have B10 := Lib.hid (SRow.grown (((S3.out.alloc _).alloc _).lower (Nat.le_add_right _ 2)) hg10 ((HB2.out.alloc HB2.out.size _).alloc (by have := HB2.out.size; simp; omega) _) (by have := HB2.out.size; simp; omega))
              have O10 := Lib.hid ho10
              have c0 := XV.out.cell 0
              have c1 := XV.out.cell 1
              have r0 := X8.out.cell 0
              have r1 := X8.out.cell 1
              have z0 := X8.out.free 0
              have z1 := X8.out.free 1
              simp only [List.getElem?_toArray, List.getElem?_cons_zero, List.getElem?_cons_succ] at c0 c1 r0 r1
              clear ho10 hg10 X6 X7 S3 HB2
              go_wp2_with fail
              go_roundw
              case rel =>
                refine ⟨k + 1, ps ++ [[]], _, _, by go_num, by omega, ?_, (X8.out.set 0 _).set 1 _, (X9.out.far (by omega) _ _).far (by omega) _ _, (B10.out.setCell (by simp) _).setCell (by simp) _, ?_⟩
                · rw [List.map_append]
                  exact (O10.out.set (by omega) _ _).set (by omega) _ _
                · exact .inr ⟨q, HQQ.out, rfl, HE.out⟩
              case measure => simp [intOf]; omega
            | ok n1 u =>
              rw [hq] at NC
              obtain ⟨q1, q2, q3, _⟩ := num_ok hq
              obtain ⟨j, rfl⟩ := Int.eq_ofNat_of_zero_le q2
              have hul : u.length ≤ s2.size - 1 := by
                have := congrArg List.length q1
                have e : s2.data.toList.length = s2.size := rfl
                simp only [List.length_drop, List.length_append] at this
                omega
              have HUL := Lib.hid hul
              have YC := fun w => bytes_calls (bat u) j w (by rw [bat_size]; have := HSZ.out; omega) (by omega)
              rw [show (bat u).data.toList = u from rfl] at YC
              clear q1 q3 hul
              cases hy : bytesR j u with
              | err q =>
                rw [hy] at YC
                have HE : Hid (R = .err q) := Lib.hid (by rw [← HR2.out]; exact list_byt hq (by simpa using hy))
                have HQQ := Lib.hid (bytes_k hy)
                clear hq hy HR2
                go_wp2_with fail
                refine (NC _).mono ?_
                rintro e w1 ⟨rfl, hb1⟩
                have X4 := Lib.hid (X1.out.keep hb1)
                have X5 := Lib.hid (X2.out.keep hb1)
                have HB1 := Lib.hid (HB.out.trans (hb1.mono HB.out.size))
                have S1 := Lib.hid (HS.out.below hb1)
                clear hb1 NC HS X1 X2 HB
                go_wp2_with fail
                refine (YC _).mono ?_
                rintro e w2 ⟨⟨s3, rfl⟩, hb2⟩
                have S2 := Lib.hid (S1.out.alloc (.cells #[.string (bat u), .int .i64 0] 57))
                have X4 := Lib.hid (X4.out.alloc (.cells #[.string (bat u), .int .i64 0] 57))
                have X5 := Lib.hid (X5.out.alloc (.cells #[.string (bat u), .int .i64 0] 57))
                have HB1 := Lib.hid (HB1.out.alloc HB1.out.size (.cells #[.string (bat u), .int .i64 0] 57))
                clear S1
                have HLN : Hid ((ps.map bat).length ≤ 1048576) := Lib.hid (by rw [List.length_map]; have := HSZ.out; omega)
                have S3 := Lib.hid (S2.out.below hb2)
                have X6 := Lib.hid (X4.out.keep hb2)
                have X7 := Lib.hid (X5.out.keep hb2)
                have HB2 := Lib.hid (HB1.out.trans (hb2.mono HB1.out.size))
                clear hb2 S2 X4 X5 HB1
                go_wp2_with (at_builtin; refine wpList_append_str rfl _ _ rfl (w.heap.size + 2) _ (ps.map bat) rfl ((S3.out.alloc _).alloc _) (w2.heap.size + 1) (bat []) rfl (by simpa using heap_alloc_new (w2.alloc _) _) HLN.out ?c5 ?_)
                case c5 => have := X7.out.lt; simp; omega
                intro v3 w10 ho10 hg10
                have XV := Lib.hid (((Box.new w2 _ _).alloc _).grown2 S3.out hg10 (Nat.le_refl _))
                have X8 := Lib.hid (((X6.out.alloc _).alloc _).grown ((S3.out.alloc _).alloc _) hg10 (by omega))
                have X9 := Lib.hid (((X7.out.alloc _).alloc _).grown ((S3.out.alloc _).alloc _) hg10 (by omega))
                have B10 := Lib.hid (SRow.grown (((S3.out.alloc _).alloc _).lower (Nat.le_add_right _ 2)) hg10 ((HB2.out.alloc HB2.out.size _).alloc (by have := HB2.out.size; simp; omega) _) (by have := HB2.out.size; simp; omega))
                have O10 := Lib.hid ho10
                have c0 := XV.out.cell 0
                have c1 := XV.out.cell 1
                have r0 := X8.out.cell 0
                have r1 := X8.out.cell 1
                have z0 := X8.out.free 0
                have z1 := X8.out.free 1
                simp only [List.getElem?_toArray, List.getElem?_cons_zero, List.getElem?_cons_succ] at c0 c1 r0 r1
                clear ho10 hg10 X6 X7 S3 HB2
                go_wp2_with fail
                go_roundw
                case rel =>
                  refine ⟨k + 1, ps ++ [[]], _, _, by go_num, by omega, ?_, (X8.out.set 0 _).set 1 _, (X9.out.far (by omega) _ _).far (by omega) _ _, (B10.out.setCell (by simp) _).setCell (by simp) _, ?_⟩
                  · rw [List.map_append]
                    exact (O10.out.set (by omega) _ _).set (by omega) _ _
                  · exact .inr ⟨q, HQQ.out, rfl, HE.out⟩
                case measure => simp [intOf]; omega
              | ok t r =>
                rw [hy] at YC
                have HE : Hid (listR m (ps ++ [t]) r = R) := Lib.hid (by rw [← HR2.out]; exact (list_step hq (by simpa using hy)).symm)
                have hrl : r.length ≤ u.length := by
                  obtain ⟨q1, _⟩ := bytes_ok hy
                  rw [q1, List.length_append]; omega
                have HRL := Lib.hid hrl
                clear hq hy HR2 hrl
                go_wp2_with fail
                refine (NC _).mono ?_
                rintro e w1 ⟨rfl, hb1⟩
                have X4 := Lib.hid (X1.out.keep hb1)
                have X5 := Lib.hid (X2.out.keep hb1)
                have HB1 := Lib.hid (HB.out.trans (hb1.mono HB.out.size))
                have S1 := Lib.hid (HS.out.below hb1)
                clear hb1 NC HS X1 X2 HB
                go_wp2_with fail
                refine (YC _).mono ?_
                rintro e w2 ⟨rfl, hb2⟩
                have S2 := Lib.hid (S1.out.alloc (.cells #[.string (bat u), .int .i64 0] 57))
                have X4 := Lib.hid (X4.out.alloc (.cells #[.string (bat u), .int .i64 0] 57))
                have X5 := Lib.hid (X5.out.alloc (.cells #[.string (bat u), .int .i64 0] 57))
                have HB1 := Lib.hid (HB1.out.alloc HB1.out.size (.cells #[.string (bat u), .int .i64 0] 57))
                clear S1
                have HLN : Hid ((ps.map bat).length ≤ 1048576) := Lib.hid (by rw [List.length_map]; have := HSZ.out; omega)
                have S3 := Lib.hid (S2.out.below hb2)
                have X6 := Lib.hid (X4.out.keep hb2)
                have X7 := Lib.hid (X5.out.keep hb2)
                have HB2 := Lib.hid (HB1.out.trans (hb2.mono HB1.out.size))
                clear hb2 S2 X4 X5 HB1
                go_wp2_with (at_builtin; refine wpList_append_str rfl _ _ rfl (w.heap.size + 2) _ (ps.map bat) rfl ((S3.out.alloc _).alloc _) (w2.heap.size + 1) (bat t) rfl (by simpa using heap_alloc_new (w2.alloc _) _) HLN.out ?c5 ?_)
                case c5 => have := X7.out.lt; simp; omega
                intro v3 w10 ho10 hg10
                have XV := Lib.hid (((Box.new w2 _ _).alloc _).grown2 S3.out hg10 (Nat.le_refl _))
                have X8 := Lib.hid (((X6.out.alloc _).alloc _).grown ((S3.out.alloc _).alloc _) hg10 (by omega))
                have X9 := Lib.hid (((X7.out.alloc _).alloc _).grown ((S3.out.alloc _).alloc _) hg10 (by omega))
                have B10 := Lib.hid (SRow.grown (((S3.out.alloc _).alloc _).lower (Nat.le_add_right _ 2)) hg10 ((HB2.out.alloc HB2.out.size _).alloc (by have := HB2.out.size; simp; omega) _) (by have := HB2.out.size; simp; omega))
                have O10 := Lib.hid ho10
                have c0 := XV.out.cell 0
                have c1 := XV.out.cell 1
                have r0 := X8.out.cell 0
                have r1 := X8.out.cell 1
                have z0 := X8.out.free 0
                have z1 := X8.out.free 1
                simp only [List.getElem?_toArray, List.getElem?_cons_zero, List.getElem?_cons_succ] at c0 c1 r0 r1
                clear ho10 hg10 X6 X7 S3 HB2
                go_wp2_with fail
                go_roundw
                case rel =>
                  refine ⟨k + 1, ps ++ [t], _, _, by go_num, by omega, ?_, (X8.out.set 0 _).set 1 _, (X9.out.far (by omega) _ _).far (by omega) _ _, (B10.out.setCell (by simp) _).setCell (by simp) _, ?_⟩
                  · rw [List.map_append]
                    exact (O10.out.set (by omega) _ _).set (by omega) _ _
                  · refine .inl ⟨rfl, ?_, ?_⟩
                    · rw [show n - (k + 1) = m by have := HM.out; omega]; exact HE.out
                    · have := HSZ.out; have := HUL.out; have := HRL.out; rw [List.length_append, bat_size]; simp; omega
                case measure => simp [intOf]; omega
          · have t1 : ((s2[0].toNat : Int) != 36) = true := by
              rw [bne_iff_ne]; intro e; exact h36 (UInt8.toNat.inj (by show s2[0].toNat = 36; omega))
            have HE : Hid (R = .err 9) := Lib.hid (by rw [← HR.out, HC.out]; exact list_wrong h36)
            clear h36 HR HC
            go_wp2_with fail
            refine (fail_calls s2 9 _).mono ?_
            rintro e w1 ⟨rfl, hb1⟩
            have X5 := Lib.hid (X2.out.keep hb1)
            have HB1 := Lib.hid (HB.out.trans (hb1.mono HB.out.size))
            have r0 := X5.out.cell 0
            have r1 := X5.out.cell 1
            have z0 := X5.out.free 0
            have z1 := X5.out.free 1
            simp only [List.getElem?_toArray, List.getElem?_cons_zero, List.getElem?_cons_succ] at r0 r1
            clear hb1 X1 X2 HB
            go_wp2_with fail
            refine ret_t2 Tryd.results34 rfl rfl rfl ((X5.out.set 0 _).set 1 _) ?_
            rw [HE.out]
            exact ⟨⟨_, _, _, _, rfl⟩, (HB1.out.setCell (by simp) _).setCell (by simp) _⟩
    · have HE := Lib.hid hR
      have t1 : (((q : Nat) : Int) == 0) = false := by rw [beq_eq_false_iff_ne]; omega
      clear hR
      by_cases i1 : (k : Int) < (n : Int)
      · skip
        have r0 := X2.out.cell 0
        have r1 := X2.out.cell 1
        have z0 := X2.out.free 0
        have z1 := X2.out.free 1
        simp only [List.getElem?_toArray, List.getElem?_cons_zero, List.getElem?_cons_succ] at r0 r1
        go_wp2_with fail
        refine ret_t2 Tryd.results34 rfl rfl rfl ((X2.out.set 0 _).set 1 _) ?_
        rw [HE.out]
        exact ⟨⟨_, _, _, _, rfl⟩, (HB.out.setCell (by simp) _).setCell (by simp) _⟩
      · skip
        have r0 := X2.out.cell 0
        have r1 := X2.out.cell 1
        have z0 := X2.out.free 0
        have z1 := X2.out.free 1
        simp only [List.getElem?_toArray, List.getElem?_cons_zero, List.getElem?_cons_succ] at r0 r1
        go_wp2_with fail
        refine ret_t2 Tryd.results34 rfl rfl rfl ((X2.out.set 0 _).set 1 _) ?_
        rw [HE.out]
        exact ⟨⟨_, _, _, _, rfl⟩, (HB.out.setCell (by simp) _).setCell (by simp) _⟩
end Go.Proofs.YtflmolhkbpicbaaDoor.Ry
/-
  What the document's own Decode answers, in any world.
-/
namespace Go.Proofs.YtflmolhkbpicbaaDoor.Ry
open Go.RowKit

abbrev rv (x : Rep) (A : Option Addr) (c : Nat) : Value := .agg #[.int .i64 x.k, .string (bat x.t), .int .i64 x.n, .slice A x.l.length c]
/-- an answer that was read, or an error -/
def DecRes (R : Rd Rep) (n B : Nat) (e : Ending) (w' : World) : Prop := match R with
  | .ok x r => ∃ A c, e = .returned (.tuple #[rv x A c, .int .i64 ((n - r.length : Nat) : Int), .int .i64 0]) ∧ SRow w' B (.slice A x.l.length c) (x.l.map bat)
  | .err k => e = .returned (.tuple #[rv zero none 0, .int .i64 0, .int .i64 (k : Nat)])
set_option maxRecDepth 100000 in
theorem three_boxes (w : World) (t t2 t3 : TypeId) (cs cs2 cs3 : Array Value) : Below w.heap.size w (((w.alloc (.cells cs t)).alloc (.cells cs2 t2)).alloc (.cells cs3 t3)) ∧ Box (((w.alloc (.cells cs t)).alloc (.cells cs2 t2)).alloc (.cells cs3 t3)) w.heap.size t cs ∧ Box (((w.alloc (.cells cs t)).alloc (.cells cs2 t2)).alloc (.cells cs3 t3)) (w.heap.size + 1) t2 cs2 ∧ Box (((w.alloc (.cells cs t)).alloc (.cells cs2 t2)).alloc (.cells cs3 t3)) (w.heap.size + 1 + 1) t3 cs3 :=
  ⟨(((Below.refl _ _).alloc (Nat.le_refl _) _).alloc (by simp) _).alloc (by simp; omega) _, ((Box.new w t cs).alloc _).alloc _, (Box.new1 _ _ _ _).alloc _, by simpa using Box.new ((w.alloc (.cells cs t)).alloc (.cells cs2 t2)) t3 cs3⟩
set_option maxRecDepth 100000 in
theorem Bts.new {w : World} {A : Option Addr} {l : Bytes} (h : Bts w A l) {w' : World} (hb : Below w.heap.size w w') : Bts w' A l := h.keep hb

set_option maxHeartbeats 4000000 in
set_option maxRecDepth 100000 in
theorem decode_none (A : Option Addr) (cap : Nat) (w : World) :
    Calls Tryd.prog 20 #[.slice A 0 cap] w fun e w' => DecRes (decR []) 0 w.heap.size e w' ∧ Below w.heap.size w w' := by
  go_enter Tryd.func20, Tryd.ntmps20
  go_wp2_with fail
  refine ret_r3 Tryd.results20 rfl rfl rfl rfl (Box.new w _ _) ?_
  exact ⟨rfl, (Below.refl _ _).alloc (Nat.le_refl _) _⟩

set_option maxHeartbeats 8000000 in
set_option maxRecDepth 100000 in
theorem decode_wrong (a : Addr) (cap : Nat) (c : UInt8) (l : Bytes) (w : World) (hA : Bts w (some a) (c :: l)) (hl : l.length ≤ 65000) (hcap : l.length + 1 ≤ cap) (h43 : c ≠ 43) (h45 : c ≠ 45) (h58 : c ≠ 58) (h36 : c ≠ 36) (h42 : c ≠ 42) :
    Calls Tryd.prog 20 #[.slice (some a) (l.length + 1) cap] w fun e w' => DecRes (decR (c :: l)) (l.length + 1) w.heap.size e w' ∧ Below w.heap.size w w' := by
  have hi : ∀ w', Bts w' (some a) (c :: l) → w'.cell? (a.add 0) = some (.int .u8 (c.toNat : Int)) := fun w' h => by
    obtain ⟨a', e, hc⟩ := h.at_ (i := 0) (by simp)
    injection e with e
    subst e
    exact hc
  have HA := Lib.hid hA
  have HI := Lib.hid hi
  have hi2 : ∀ w', Bts w' (some a) (c :: l) → w'.cell? a = some (.int .u8 (c.toNat : Int)) := fun w' h => by have := hi w' h; simpa [Addr.add] using this
  have HI2 := Lib.hid hi2
  clear hA hi hi2
  have j1 : ((l.length : Int) + 1 == 0) = false := by rw [beq_eq_false_iff_ne]; omega
  go_enter Tryd.func20, Tryd.ntmps20
  have hA1 := HA.out.keep ((Below.refl w.heap.size w).alloc (Nat.le_refl _) (.cells #[.int .i64 0, .string ⟨#[]⟩, .int .i64 0, .slice none 0 0] 25))
  have t43 : ((c.toNat : Int) == 43) = false := by
    rw [beq_eq_false_iff_ne]; intro e; exact h43 (UInt8.toNat.inj (by show c.toNat = 43; omega))
  have t45 : ((c.toNat : Int) == 45) = false := by
    rw [beq_eq_false_iff_ne]; intro e; exact h45 (UInt8.toNat.inj (by show c.toNat = 45; omega))
  have t58 : ((c.toNat : Int) == 58) = false := by
    rw [beq_eq_false_iff_ne]; intro e; exact h58 (UInt8.toNat.inj (by show c.toNat = 58; omega))
  have t36 : ((c.toNat : Int) == 36) = false := by
    rw [beq_eq_false_iff_ne]; intro e; exact h36 (UInt8.toNat.inj (by show c.toNat = 36; omega))
  have t42 : ((c.toNat : Int) == 42) = false := by
    rw [beq_eq_false_iff_ne]; intro e; exact h42 (UInt8.toNat.inj (by show c.toNat = 42; omega))
  have HE : Hid (decR (c :: l) = .err 9) := Lib.hid (by simp [decR, h43, h45, h58, h36, h42])
  clear h43 h45 h58 h36 h42
  by_cases hc1 : cap = 1
  · obtain rfl : l = [] := List.eq_nil_of_length_eq_zero (by omega)
    subst hc1
    have g0 : (convert 32 9 (.slice (some a) 0 0)).run Tryd.prog (w.alloc (.cells #[.int .i64 0, .string ⟨#[]⟩, .int .i64 0, .slice none 0 0] 25)) = .ok (.string (bat [])) (w.alloc (.cells #[.int .i64 0, .string ⟨#[]⟩, .int .i64 0, .slice none 0 0] 25)) := by
      have := conv_bts hA1 0 0 0 (by omega)
      simpa [Addr.add] using this
    clear hA1
    obtain ⟨hb, x1, x2, x3⟩ := three_boxes w 25 57 25 #[.int .i64 0, .string ⟨#[]⟩, .int .i64 0, .slice none 0 0] #[.string (bat []), .int .i64 0] #[.int .i64 0, .string ⟨#[]⟩, .int .i64 0, .slice none 0 0]
    have b1 := HI2.out _ (HA.out.keep hb)
    have HB := Lib.hid hb
    have X1 := Lib.hid x1
    have X2 := Lib.hid x2
    have X3 := Lib.hid x3
    clear hb x1 x2 x3
    clear X1 X2 X3 HB
    go_wp2_with fail
    obtain ⟨hb, x1, x2, x3⟩ := three_boxes w 25 57 25 #[.int .i64 0, .string ⟨#[]⟩, .int .i64 0, .slice none 0 0] #[.string (bat []), .int .i64 9] #[.int .i64 0, .string ⟨#[]⟩, .int .i64 0, .slice none 0 0]
    generalize (((w.alloc (.cells #[.int .i64 0, .string ⟨#[]⟩, .int .i64 0, .slice none 0 0] 25)).alloc (.cells #[.string (bat []), .int .i64 9] 57)).alloc (.cells #[.int .i64 0, .string ⟨#[]⟩, .int .i64 0, .slice none 0 0] 25)) = W at hb x1 x2 x3 ⊢
    have HB := Lib.hid hb
    have X1 := Lib.hid x1
    have X2 := Lib.hid x2
    clear hb x1 x2 x3
    have c0 := X2.out.cell 0
    have c1 := X2.out.cell 1
    have r0 := X1.out.cell 0
    have r1 := X1.out.cell 1
    have r2 := X1.out.cell 2
    have r3 := X1.out.cell 3
    have z0 := X1.out.free 0
    have z1 := X1.out.free 1
    have z2 := X1.out.free 2
    have z3 := X1.out.free 3
    simp only [List.getElem?_toArray, List.getElem?_cons_zero, List.getElem?_cons_succ] at c0 c1 r0 r1 r2 r3
    go_region
    go_wp2_with fail
    refine ret_r3 Tryd.results20 rfl rfl rfl rfl (Box.drew ((((X1.out.set 0 _).set 1 _).set 2 _).set 3 _)) ?_
    rw [HE.out]
    exact ⟨rfl, ((((HB.out.setCell (by simp) _).setCell (by simp) _).setCell (by simp) _).setCell (by simp) _).drew⟩
  · have g0 : (convert 32 9 (.slice (some ⟨a.block, a.off + 1, none⟩) l.length (cap - 1))).run Tryd.prog (w.alloc (.cells #[.int .i64 0, .string ⟨#[]⟩, .int .i64 0, .slice none 0 0] 25)) = .ok (.string (bat l)) (w.alloc (.cells #[.int .i64 0, .string ⟨#[]⟩, .int .i64 0, .slice none 0 0] 25)) := by
      have := conv_bts hA1 1 l.length (cap - 1) (by simp; omega)
      rw [addS a 0] at this
      simpa using this
    have hc2 : ¬ cap ≤ 1 := by omega
    have hc3 : 1 < cap := by omega
    clear hA1 hc1
    obtain ⟨hb, x1, x2, x3⟩ := three_boxes w 25 57 25 #[.int .i64 0, .string ⟨#[]⟩, .int .i64 0, .slice none 0 0] #[.string (bat l), .int .i64 0] #[.int .i64 0, .string ⟨#[]⟩, .int .i64 0, .slice none 0 0]
    have b1 := HI2.out _ (HA.out.keep hb)
    have HB := Lib.hid hb
    have X1 := Lib.hid x1
    have X2 := Lib.hid x2
    have X3 := Lib.hid x3
    clear hb x1 x2 x3
    clear X1 X2 X3 HB
    go_wp2_with fail
    obtain ⟨hb, x1, x2, x3⟩ := three_boxes w 25 57 25 #[.int .i64 0, .string ⟨#[]⟩, .int .i64 0, .slice none 0 0] #[.string (bat l), .int .i64 9] #[.int .i64 0, .string ⟨#[]⟩, .int .i64 0, .slice none 0 0]
    generalize (((w.alloc (.cells #[.int .i64 0, .string ⟨#[]⟩, .int .i64 0, .slice none 0 0] 25)).alloc (.cells #[.string (bat l), .int .i64 9] 57)).alloc (.cells #[.int .i64 0, .string ⟨#[]⟩, .int .i64 0, .slice none 0 0] 25)) = W at hb x1 x2 x3 ⊢
    have HB := Lib.hid hb
    have X1 := Lib.hid x1
    have X2 := Lib.hid x2
    clear hb x1 x2 x3
    have c0 := X2.out.cell 0
    have c1 := X2.out.cell 1
    have r0 := X1.out.cell 0
    have r1 := X1.out.cell 1
    have r2 := X1.out.cell 2
    have r3 := X1.out.cell 3
    have z0 := X1.out.free 0
    have z1 := X1.out.free 1
    have z2 := X1.out.free 2
    have z3 := X1.out.free 3
    simp only [List.getElem?_toArray, List.getElem?_cons_zero, List.getElem?_cons_succ] at c0 c1 r0 r1 r2 r3
    go_region
    go_wp2_with fail
    refine ret_r3 Tryd.results20 rfl rfl rfl rfl (Box.drew ((((X1.out.set 0 _).set 1 _).set 2 _).set 3 _)) ?_
    rw [HE.out]
    exact ⟨rfl, ((((HB.out.setCell (by simp) _).setCell (by simp) _).setCell (by simp) _).setCell (by simp) _).drew⟩
end Go.Proofs.YtflmolhkbpicbaaDoor.Ry
/-
  A store of a whole struct, as a step that knows the boxes about it.
-/
namespace Go.Proofs.YtflmolhkbpicbaaDoor.Ry
open Go.RowKit

/-- w' is w, but that the box g holds these cells -/
structure Puts (g : Nat) (t : TypeId) (cells : Array Value) (w w' : World) : Prop where
  box : Box w' g t cells
  far : ∀ b t' cs', b ≠ g → Box w b t' cs' → Box w' b t' cs'
  below : ∀ B w0, B ≤ g → Below B w0 w → Below B w0 w'
  row : ∀ B v l, g < B → SRow w B v l → SRow w' B v l
set_option maxRecDepth 100000 in
theorem Puts.setRow {g : Nat} {t : TypeId} {old : Array Value} {w : World} (cells : Array Value) (h : Box w g t old) : Puts g t cells w (w.setRow g cells) := by
  refine ⟨setRow_heap w g _ _ _ _ h, fun b t' cs' hne hb => ?_, fun B w0 hB hb => ?_, fun B v l hg hr => ?_⟩
  · unfold Box at *
    rw [setRow_other w g b cells hne]; exact hb
  · exact hb.trans ⟨rfl, rfl, rfl, by simp [World.setRow], fun k hk => setRow_other w g k cells (by omega)⟩
  · refine ⟨hr.1, ?_⟩
    rcases hr.2 with h2 | ⟨k, cap, cur, hv, hB, r, rest⟩
    · exact .inl h2
    · exact .inr ⟨k, cap, cur, hv, hB, by rw [setRow_other w g k cells (by omega)]; exact r, rest⟩
set_option maxRecDepth 100000 in
theorem wpList_store_box {w : World} {ops : Array Oper} {rest : List Oper} {o : Oper} {a : Act} {Q : Exit → Act → World → Prop} (hgd : o.guard = none) (ty : TypeId) (x y : Operand) (ho : o.op = .store ty x y)
    (g : Nat) (cells : Array Value) (hx : a.eval x = .pointer (some ⟨g, 0, none⟩)) (hy : a.eval y = .agg cells) (old : Array Value) (hg : Box w g ty old) (hi : (Tryd.prog.info? ty).map (·.size) = some cells.size)
    (hold : old.size = cells.size) (h1 : cells.all (·.oneCell') = true)
    (h : ∀ w', Puts g ty cells w w' → wpList Tryd.prog ops Q rest (a.put o.dst undef) w') : wpList Tryd.prog ops Q (o :: rest) a w :=
  wpList_store_row hgd ty x y ho g cells hx hy ty old hg hi hold h1 (h _ (Puts.setRow cells hg))
end Go.Proofs.YtflmolhkbpicbaaDoor.Ry
/-
  What the document's own line, bulk answer, in any world.
-/
namespace Go.Proofs.YtflmolhkbpicbaaDoor.Ry
open Go.RowKit

set_option maxRecDepth 100000 in
set_option maxHeartbeats 1000000 in
theorem bulk_calls (l : Bytes) (w : World) (hl : l.length ≤ 65536) :
    Calls Tryd.prog 42 #[.string (bat l)] w fun e w' => e = .returned (.string (bat (bulk l))) ∧ Below w.heap.size w w' := by
  have hs : (bat l).size = l.length := bat_size l
  go_enter Tryd.func42, Tryd.ntmps42
  go_wp2_with fail
  refine (Dg.refprint (l.length : Int) _ (by omega) (by omega)).mono ?_
  rintro e w1 ⟨rfl, hb⟩
  have hd0 := (Dg.txt_len (l.length : Int) (by omega) (by omega)).1
  rw [txt_nat] at hd0 ⊢
  generalize hdd : Dg.dec l.length = d0 at hd0 ⊢
  have HD := Lib.hid hdd
  clear hdd
  go_wp2_with fail
  go_ret
  refine ⟨?_, hb⟩
  unfold bulk crlf
  rw [HD.out]
  simp [ByteArray.mk_append_mk]

set_option maxRecDepth 100000 in
theorem lineR_snoc (l : Bytes) (c : UInt8) : lineR (l ++ [c]) = lineR l ++ [lineB c] := by simp [lineR]
set_option maxRecDepth 100000 in
theorem line_take (s : ByteArray) (k : Nat) (h : k < s.size) : lineR (s.data.toList.take (k + 1)) = lineR (s.data.toList.take k) ++ [lineB s[k]] := by
  have h' : k < s.data.toList.length := h
  rw [List.take_succ_eq_append_getElem h', lineR_snoc]
  rfl
set_option maxRecDepth 100000 in
theorem one_bts (w : World) (x : UInt8) : Bts (w.alloc (.cells #[.int .u8 (x.toNat : Int)] 5)) (some ⟨w.heap.size, 0, none⟩) [x] := fun i hi => by
  obtain rfl : i = 0 := by simpa using hi
  refine ⟨_, rfl, ?_⟩
  rw [Addr.add_lit, cell_of_row _ _ _ _ _ _ (heap_alloc_new _ _)]
  rfl
set_option maxHeartbeats 1000000 in
set_option maxRecDepth 100000 in
theorem line_calls (s : ByteArray) (w : World) (hs : s.size ≤ 65536) :
    Calls Tryd.prog 24 #[.string s] w fun e w' => e = .returned (.string (bat (lineR s.data.toList))) ∧ Below w.heap.size w w' := by
  go_enter Tryd.func24, Tryd.ntmps24
  go_wp2_with fail
  go_loopw [3, 4] (fun v i wr => ∃ k : Nat, k ≤ s.size ∧ i = .int .i64 (k : Nat) ∧ BRow wr w.heap.size v (lineR (s.data.toList.take k)) ∧ Below w.heap.size w wr) (fun _ i _ => s.size - (intOf i).toNat)
  case atStart => exact ⟨0, Nat.zero_le _, rfl, BRow.nil _ _, Below.refl _ _⟩
  case round =>
    obtain ⟨k, hk, rfl, hv, hb⟩ := hrel
    obtain ⟨V, n0, vc, rfl, hn0⟩ := hv.form
    have HV := Lib.hid hv
    have HB := Lib.hid hb
    have HN := Lib.hid hn0
    clear hv hb hn0
    by_cases hlt : k < s.size
    · have i1 : (k : Int) < (s.size : Int) := by omega
      have HT := Lib.hid (line_take s k hlt)
      have HLN : Hid ((lineR (s.data.toList.take k)).length + 1 ≤ 67108864) := Lib.hid (by
        have : s.data.toList.length = s.size := rfl
        unfold lineR; rw [List.length_map, List.length_take]; omega)
      have key : ∀ x : UInt8, ∀ wr2 v2, BRow wr2 w.heap.size v2 (lineR (s.data.toList.take k) ++ [x]) → lineB s[k] = x → BRow wr2 w.heap.size v2 (lineR (s.data.toList.take (k + 1))) := fun x wr2 v2 h e => by rw [HT.out, e]; exact h
      have KEY := Lib.hid key
      clear key HT
      by_cases h13 : s[k] = 13
      · have t1 : ((s[k].toNat : Int) == 13) = true := by rw [h13]; rfl
        have HX : Hid (lineB s[k] = 32) := Lib.hid (by rw [h13]; rfl)
        clear h13
        go_wp2_with (at_builtin; refine wpList_append_bts rfl _ _ rfl w.heap.size _ _ rfl (HV.out.alloc _) _ 1 1 [32] rfl (one_bts wr 32) rfl (fun e => by cases e) HLN.out ?c5 ?_)
        case c5 => have := HB.out.size; simp; omega
        intro v' w10 ho hg
        have B10 := Lib.hid (BRow.grown (HV.out.alloc (.cells #[.int .u8 32] 5)) hg (HB.out.alloc HB.out.size _) (by have := HB.out.size; simp; omega))
        have O10 := Lib.hid (KEY.out _ _ _ ho HX.out)
        clear ho hg
        go_wp2_with fail
        go_roundw
        case rel => exact ⟨k + 1, by omega, by go_num, O10.out, B10.out⟩
        case measure => simp [intOf]; omega
      · have t1 : ((s[k].toNat : Int) == 13) = false := by
          rw [beq_eq_false_iff_ne]; intro e; exact h13 (UInt8.toNat.inj (by show s[k].toNat = 13; omega))
        by_cases h10 : s[k] = 10
        · have t2 : ((s[k].toNat : Int) == 10) = true := by rw [h10]; rfl
          have HX : Hid (lineB s[k] = 32) := Lib.hid (by rw [h10]; rfl)
          clear h13 h10
          go_wp2_with (at_builtin; refine wpList_append_bts rfl _ _ rfl w.heap.size _ _ rfl (HV.out.alloc _) _ 1 1 [32] rfl (one_bts wr 32) rfl (fun e => by cases e) HLN.out ?c5 ?_)
          case c5 => have := HB.out.size; simp; omega
          intro v' w10 ho hg
          have B10 := Lib.hid (BRow.grown (HV.out.alloc (.cells #[.int .u8 32] 5)) hg (HB.out.alloc HB.out.size _) (by have := HB.out.size; simp; omega))
          have O10 := Lib.hid (KEY.out _ _ _ ho HX.out)
          clear ho hg
          go_wp2_with fail
          go_roundw
          case rel => exact ⟨k + 1, by omega, by go_num, O10.out, B10.out⟩
          case measure => simp [intOf]; omega
        · have t2 : ((s[k].toNat : Int) == 10) = false := by
            rw [beq_eq_false_iff_ne]; intro e; exact h10 (UInt8.toNat.inj (by show s[k].toNat = 10; omega))
          have HX : Hid (lineB s[k] = s[k]) := Lib.hid (by unfold lineB; rw [if_neg]; rintro (e | e); exact h13 e; exact h10 e)
          clear h13 h10
          go_wp2_with (at_builtin; refine wpList_append_bts rfl _ _ rfl w.heap.size _ _ rfl (HV.out.alloc _) _ 1 1 [s[k]] rfl (one_bts wr s[k]) rfl (fun e => by cases e) HLN.out ?c5 ?_)
          case c5 => have := HB.out.size; simp; omega
          intro v' w10 ho hg
          have B10 := Lib.hid (BRow.grown (HV.out.alloc (.cells #[.int .u8 (s[k].toNat : Int)] 5)) hg (HB.out.alloc HB.out.size _) (by have := HB.out.size; simp; omega))
          have O10 := Lib.hid (KEY.out _ _ _ ho HX.out)
          clear ho hg
          go_wp2_with fail
          go_roundw
          case rel => exact ⟨k + 1, by omega, by go_num, O10.out, B10.out⟩
          case measure => simp [intOf]; omega
    · have i1 : ¬ (k : Int) < (s.size : Int) := by omega
      have HL : Hid (lineR (s.data.toList.take k) = lineR s.data.toList) := Lib.hid (by rw [List.take_of_length_le (by show s.size ≤ k; omega)])
      have gc : (convert 32 9 (.slice V n0 vc)).run Tryd.prog wr = .ok (.string (bat (lineR s.data.toList))) wr := by
        obtain ⟨A, cap, e, hA, _⟩ := HV.out.view
        injection e with e1 e2 e3
        subst e1 e2 e3
        have := conv_all hA vc
        rw [HL.out] at this ⊢
        exact this
      clear hlt
      go_wp2_with fail
      go_ret
      exact ⟨rfl, HB.out⟩
end Go.Proofs.YtflmolhkbpicbaaDoor.Ry
