/-
  What the document's own Decode answers, in any world: all of it.
-/
import Derived.Test.YtflmolhkbpicbaaDoorKRpyDcN
import Derived.Test.YtflmolhkbpicbaaDoorKRpyDcL
import Derived.Test.YtflmolhkbpicbaaDoorKRpyDcB
import Derived.Test.YtflmolhkbpicbaaDoorKGLst
namespace Go.Proofs.YtflmolhkbpicbaaDoor.Ry
open Go.RowKit

set_option maxRecDepth 100000 in
theorem decode_calls (A : Option Addr) (cap : Nat) (l : Bytes) (w : World) (hA : Bts w A l) (hl : l.length ≤ 65000) (hcap : l.length ≤ cap) :
    Calls Tryd.prog 20 #[.slice A l.length cap] w fun e w' => DecRes (decR l) l.length w.heap.size e w' ∧ Below w.heap.size w w' := by
  cases l with
  | nil => exact decode_none A cap w
  | cons c l =>
    obtain ⟨a, rfl, _⟩ := hA.at_ (i := 0) (by simp)
    simp only [List.length_cons] at hl hcap ⊢
    by_cases h43 : c = 43
    · exact decode_plus a cap c l w hA (by omega) hcap h43
    · by_cases h45 : c = 45
      · exact decode_minus a cap c l w hA (by omega) hcap h45
      · by_cases h58 : c = 58
        · exact decode_num a cap c l w hA (by omega) hcap h58
        · by_cases h36 : c = 36
          · exact decode_bulk a cap c l w hA (by omega) hcap h36
          · by_cases h42 : c = 42
            · exact decode_list a cap c l w hA (by omega) hcap h42
            · exact decode_wrong a cap c l w hA (by omega) hcap h43 h45 h58 h36 h42
end Go.Proofs.YtflmolhkbpicbaaDoor.Ry
/-
  What the document's own Plain answers, in any world.
-/
namespace Go.Proofs.YtflmolhkbpicbaaDoor.Ry
open Go.RowKit

/-- an answer, plain: its texts are those that were handed in, or none -/
def PlainRes (x : Rep) (A : Option Addr) (cap : Nat) (e : Ending) : Prop := ∃ A' c', e = .returned (rv (plain x) A' c') ∧ ((x.k = 6 ∧ A' = A ∧ c' = cap) ∨ (x.k ≠ 6 ∧ A' = none ∧ c' = 0))
set_option maxHeartbeats 2000000 in
set_option maxRecDepth 100000 in
theorem plain_calls (x : Rep) (A : Option Addr) (cap : Nat) (w : World) (ht : x.t.length ≤ 65536) :
    Calls Tryd.prog 11 #[rv x A cap] w fun e w' => PlainRes x A cap e ∧ Below w.heap.size w w' := by
  obtain ⟨k, t, n, l⟩ := x
  simp only at ht
  unfold rv
  go_enter Tryd.func11, Tryd.ntmps11
  by_cases h1 : k = 1
  · have k1 : (k == (1 : Int)) = true := by rw [beq_iff_eq]; exact h1
    go_wp2_with fail
    obtain ⟨hb, x1, x2, x3⟩ := three_boxes w 25 25 25 #[.int .i64 1, .string (bat t), .int .i64 n, .slice A l.length cap] #[.int .i64 0, .string ⟨#[]⟩, .int .i64 0, .slice none 0 0] #[.int .i64 1, .string ⟨#[]⟩, .int .i64 0, .slice none 0 0]
    refine (line_calls (bat t) _ (by rw [bat_size]; exact ht)).mono ?_
    rintro e w1 ⟨rfl, hb1⟩
    have X2 := Lib.hid (x2.keep hb1)
    have X3 := Lib.hid (x3.keep hb1)
    have HB := Lib.hid (hb.trans (hb1.mono hb.size))
    have d0 := X3.out.cell 0
    have d1 := X3.out.cell 1
    have d2 := X3.out.cell 2
    have d3 := X3.out.cell 3
    have y1 := X3.out.free 1
    simp only [List.getElem?_toArray, List.getElem?_cons_zero, List.getElem?_cons_succ] at d0 d1 d2 d3
    clear hb hb1 x1 x2 x3
    go_wp2_with (refine wpList_store_box rfl 25 _ _ rfl (w.heap.size + 1) _ rfl rfl _ (X2.out.far (by omega) _ _) r_size rfl (by simp [Value.oneCell']) ?_)
    intro w2 p2
    have P2 := Lib.hid p2.box
    have HB2 := Lib.hid (p2.below _ _ (by omega) (HB.out.setCell (by first | (simp; done) | (simp; omega)) _))
    clear p2
    go_wp2_with fail
    refine ret_r1 Tryd.results11 rfl rfl P2.out ?_
    exact ⟨⟨none, 0, by simp [plain, h1], .inr ⟨by simp [h1], rfl, rfl⟩⟩, HB2.out⟩
  · skip
    by_cases h2 : k = 2
    · have k1 : (k == (1 : Int)) = false := by rw [beq_eq_false_iff_ne]; exact h1
      have k2 : (k == (2 : Int)) = true := by rw [beq_iff_eq]; exact h2
      go_wp2_with fail
      obtain ⟨hb, x1, x2, x3⟩ := three_boxes w 25 25 25 #[.int .i64 2, .string (bat t), .int .i64 n, .slice A l.length cap] #[.int .i64 0, .string ⟨#[]⟩, .int .i64 0, .slice none 0 0] #[.int .i64 2, .string ⟨#[]⟩, .int .i64 0, .slice none 0 0]
      refine (line_calls (bat t) _ (by rw [bat_size]; exact ht)).mono ?_
      rintro e w1 ⟨rfl, hb1⟩
      have X2 := Lib.hid (x2.keep hb1)
      have X3 := Lib.hid (x3.keep hb1)
      have HB := Lib.hid (hb.trans (hb1.mono hb.size))
      have d0 := X3.out.cell 0
      have d1 := X3.out.cell 1
      have d2 := X3.out.cell 2
      have d3 := X3.out.cell 3
      have y1 := X3.out.free 1
      simp only [List.getElem?_toArray, List.getElem?_cons_zero, List.getElem?_cons_succ] at d0 d1 d2 d3
      clear hb hb1 x1 x2 x3
      go_wp2_with (refine wpList_store_box rfl 25 _ _ rfl (w.heap.size + 1) _ rfl rfl _ (X2.out.far (by omega) _ _) r_size rfl (by simp [Value.oneCell']) ?_)
      intro w2 p2
      have P2 := Lib.hid p2.box
      have HB2 := Lib.hid (p2.below _ _ (by omega) (HB.out.setCell (by first | (simp; done) | (simp; omega)) _))
      clear p2
      go_wp2_with fail
      refine ret_r1 Tryd.results11 rfl rfl P2.out ?_
      exact ⟨⟨none, 0, by simp [plain, h2], .inr ⟨by simp [h2], rfl, rfl⟩⟩, HB2.out⟩
    · skip
      by_cases h3 : k = 3
      · have k1 : (k == (1 : Int)) = false := by rw [beq_eq_false_iff_ne]; exact h1
        have k2 : (k == (2 : Int)) = false := by rw [beq_eq_false_iff_ne]; exact h2
        have k3 : (k == (3 : Int)) = true := by rw [beq_iff_eq]; exact h3
        go_wp2_with fail
        refine ret_r1 Tryd.results11 rfl rfl ((Box.new1 _ _ _ _).alloc _) ?_
        exact ⟨⟨none, 0, by simp [plain, h3], .inr ⟨by simp [h3], rfl, rfl⟩⟩, (((Below.refl _ _).alloc (Nat.le_refl _) _).alloc (by simp) _).alloc (by simp; omega) _⟩
      · skip
        by_cases h4 : k = 4
        · have k1 : (k == (1 : Int)) = false := by rw [beq_eq_false_iff_ne]; exact h1
          have k2 : (k == (2 : Int)) = false := by rw [beq_eq_false_iff_ne]; exact h2
          have k3 : (k == (3 : Int)) = false := by rw [beq_eq_false_iff_ne]; exact h3
          have k4 : (k == (4 : Int)) = true := by rw [beq_iff_eq]; exact h4
          go_wp2_with fail
          refine ret_r1 Tryd.results11 rfl rfl ((Box.new1 _ _ _ _).alloc _) ?_
          exact ⟨⟨none, 0, by simp [plain, h4], .inr ⟨by simp [h4], rfl, rfl⟩⟩, (((Below.refl _ _).alloc (Nat.le_refl _) _).alloc (by simp) _).alloc (by simp; omega) _⟩
        · skip
          by_cases h6 : k = 6
          · have k1 : (k == (1 : Int)) = false := by rw [beq_eq_false_iff_ne]; exact h1
            have k2 : (k == (2 : Int)) = false := by rw [beq_eq_false_iff_ne]; exact h2
            have k3 : (k == (3 : Int)) = false := by rw [beq_eq_false_iff_ne]; exact h3
            have k4 : (k == (4 : Int)) = false := by rw [beq_eq_false_iff_ne]; exact h4
            have k6 : (k == (6 : Int)) = true := by rw [beq_iff_eq]; exact h6
            go_wp2_with fail
            refine ret_r1 Tryd.results11 rfl rfl ((Box.new1 _ _ _ _).alloc _) ?_
            exact ⟨⟨A, cap, by simp [plain, h6], .inl ⟨h6, rfl, rfl⟩⟩, (((Below.refl _ _).alloc (Nat.le_refl _) _).alloc (by simp) _).alloc (by simp; omega) _⟩
          · skip
            have k1 : (k == (1 : Int)) = false := by rw [beq_eq_false_iff_ne]; exact h1
            have k2 : (k == (2 : Int)) = false := by rw [beq_eq_false_iff_ne]; exact h2
            have k3 : (k == (3 : Int)) = false := by rw [beq_eq_false_iff_ne]; exact h3
            have k4 : (k == (4 : Int)) = false := by rw [beq_eq_false_iff_ne]; exact h4
            have k6 : (k == (6 : Int)) = false := by rw [beq_eq_false_iff_ne]; exact h6
            go_wp2_with fail
            refine ret_r1 Tryd.results11 rfl rfl ((Box.new1 _ _ _ _).alloc _) ?_
            exact ⟨⟨none, 0, by simp [plain, h1, h2, h3, h4, h6], .inr ⟨h6, rfl, rfl⟩⟩, (((Below.refl _ _).alloc (Nat.le_refl _) _).alloc (by simp) _).alloc (by simp; omega) _⟩
end Go.Proofs.YtflmolhkbpicbaaDoor.Ry
/-
  Rows of answers in memory: read, and of a call's own.
-/
namespace Go.Proofs.YtflmolhkbpicbaaDoor.Ry
open Go.RowKit

/-- an answer, and the slice that holds its texts -/
abbrev Qe := Rep × Option Addr × Nat
def qlv (x : Qe) : Value := .slice x.2.1 x.1.l.length x.2.2
abbrev q4 (x : Qe) : List Value := [.int .i64 x.1.k, .string (bat x.1.t), .int .i64 x.1.n, qlv x]
def qcells : List Qe → List Value
  | [] => []
  | x :: l => q4 x ++ qcells l
set_option maxRecDepth 100000 in
theorem qcells_length (l : List Qe) : (qcells l).length = l.length * 4 := by
  induction l with
  | nil => rfl
  | cons x l ih => simp only [qcells, List.length_append, ih, List.length_cons, List.length_nil]; omega
set_option maxRecDepth 100000 in
theorem qcells_append (k l : List Qe) : qcells (k ++ l) = qcells k ++ qcells l := by
  induction k with
  | nil => rfl
  | cons x k ih => simp [qcells, ih]
set_option maxRecDepth 100000 in
theorem qcells_one (l : List Qe) : ∀ u ∈ qcells l, u.oneCell' = true := by
  induction l with
  | nil => simp [qcells]
  | cons e l ih =>
    intro u hu
    simp [qcells] at hu
    rcases hu with rfl | rfl | rfl | rfl | hu
    · rfl
    · rfl
    · rfl
    · rfl
    · exact ih u hu
set_option maxRecDepth 100000 in
theorem qcells_at (l : List Qe) (i : Nat) (h : i < l.length) (j : Nat) (hj : j < 4) : (qcells l)[i * 4 + j]? = (q4 l[i])[j]? := by
  induction l generalizing i with
  | nil => simp at h
  | cons x l ih =>
    cases i with
    | zero => rw [qcells, List.getElem?_append_left (by simp; omega)]; simp
    | succ i =>
      rw [qcells, List.getElem?_append_right (by simp; omega), show (q4 x).length = 4 from rfl, show (i + 1) * 4 + j - 4 = i * 4 + j by omega]
      simpa using ih i (by simpa using h)
/-- a slice's address reads as answers -/
def Reps (w : World) (A : Option Addr) (l : List Qe) : Prop := ∀ i (h : i < l.length), ∃ a : Addr, A = some a ∧ ∀ j < 4, w.cell? (a.add (i * 4 + j)) = (q4 l[i])[j]?
set_option maxRecDepth 100000 in
theorem Reps.at_ {w : World} {A : Option Addr} {l : List Qe} (h : Reps w A l) {i : Nat} (hi : i < l.length) : ∃ a : Addr, A = some a ∧ ∀ j < 4, w.cell? (a.add (i * 4 + j)) = (q4 l[i])[j]? := h i hi
set_option maxRecDepth 100000 in
theorem Reps.keep {w w' : World} {A : Option Addr} {l : List Qe} (h : Reps w A l) (hb : Below w.heap.size w w') : Reps w' A l := fun i hi => by
  obtain ⟨a, e, hc⟩ := h i hi
  refine ⟨a, e, fun j hj => ?_⟩
  obtain ⟨u, hu⟩ : ∃ u, (q4 l[i])[j]? = some u := ⟨(q4 l[i])[j]'(by simp; omega), List.getElem?_eq_getElem _⟩
  rw [hu]
  exact keep2 hb ((hc j hj).trans hu)
set_option maxRecDepth 100000 in
theorem Reps.alloc {w : World} {A : Option Addr} {l : List Qe} (h : Reps w A l) (o : Obj) : Reps (w.alloc o) A l := h.keep ((Below.refl _ _).alloc (Nat.le_refl _) _)
set_option maxRecDepth 100000 in
theorem Reps.nil (w : World) (A : Option Addr) : Reps w A [] := fun i hi => absurd hi (by simp)
set_option maxRecDepth 100000 in
theorem Reps.cells {w : World} {a : Addr} {l : List Qe} (h : Reps w (some a) l) : ∀ j v, (qcells l)[j]? = some v → w.cell? (a.add j) = some v := by
  intro j v hv
  have hj : j < l.length * 4 := by
    have := (List.getElem?_eq_some_iff.1 hv).1
    rwa [qcells_length] at this
  obtain ⟨a', e, hc⟩ := h (j / 4) (by omega)
  injection e with e
  subst e
  have e2 : j / 4 * 4 + j % 4 = j := by omega
  have h1 := hc (j % 4) (by omega)
  have h2 := qcells_at l (j / 4) (by omega) (j % 4) (by omega)
  rw [e2] at h1 h2
  rw [h1, ← h2, hv]
set_option maxRecDepth 100000 in
theorem Reps.of_cells {w : World} {a : Addr} {l : List Qe} (h : ∀ j v, (qcells l)[j]? = some v → w.cell? (a.add j) = some v) : Reps w (some a) l := fun i hi =>
  ⟨a, rfl, fun j hj => by
    obtain ⟨u, hu⟩ : ∃ u, (q4 l[i])[j]? = some u := ⟨(q4 l[i])[j]'(by simp; omega), List.getElem?_eq_getElem _⟩
    rw [hu]
    exact h _ _ ((qcells_at l i hi j hj).trans hu)⟩
/-- the texts of each stand in memory -/
def Txs (w : World) (l : List Qe) : Prop := ∀ x ∈ l, Texts w x.2.1 (x.1.l.map bat) ∧ x.1.l.length ≤ x.2.2 ∧ (x.2.1 = none → x.2.2 = 0)
set_option maxRecDepth 100000 in
theorem Txs.keep {w w' : World} {l : List Qe} (h : Txs w l) (hb : Below w.heap.size w w') : Txs w' l := fun x hx => ⟨(h x hx).1.keep hb, (h x hx).2⟩
/-- the texts of each are a row of the call's own -/
def Mine (w : World) (B : Nat) (l : List Qe) : Prop := ∀ x ∈ l, SRow w B (qlv x) (x.1.l.map bat)
set_option maxRecDepth 100000 in
theorem Mine.nil (w : World) (B : Nat) : Mine w B [] := fun x hx => by cases hx
set_option maxRecDepth 100000 in
theorem Mine.below {w w' : World} {B : Nat} {l : List Qe} (h : Mine w B l) (hb : Below w.heap.size w w') : Mine w' B l := fun x hx => (h x hx).below hb
set_option maxRecDepth 100000 in
theorem Mine.alloc {w : World} {B : Nat} {l : List Qe} (h : Mine w B l) (o : Obj) : Mine (w.alloc o) B l := h.below ((Below.refl _ _).alloc (Nat.le_refl _) _)
set_option maxRecDepth 100000 in
theorem Mine.snoc {w : World} {B : Nat} {l : List Qe} {x : Qe} (h : Mine w B l) (hx : SRow w B (qlv x) (x.1.l.map bat)) : Mine w B (l ++ [x]) := fun y hy => by
  rcases List.mem_append.1 hy with hy | hy
  · exact h y hy
  · rw [List.mem_singleton] at hy; rw [hy]; exact hx
/-- a row of answers of the call's own -/
def QRow (w : World) (B : Nat) (v : Value) (l : List Qe) : Prop := w.ownsRow B 25 4 v l.length (qcells l)
set_option maxRecDepth 100000 in
theorem QRow.nil (w : World) (B : Nat) : QRow w B (.slice none 0 0) [] := World.ownsRow_nil _ _ _ _
set_option maxRecDepth 100000 in
theorem QRow.below {w w' : World} {B : Nat} {v : Value} {l : List Qe} (h : QRow w B v l) (hb : Below w.heap.size w w') : QRow w' B v l := by
  refine ⟨h.1, ?_⟩
  rcases h.2 with h2 | ⟨g, cap, cur, hv, hB, hg, r⟩
  · exact .inl h2
  · exact .inr ⟨g, cap, cur, hv, hB, by rw [hb.block g (Array.getElem?_eq_some_iff.1 hg).1]; exact hg, r⟩
set_option maxRecDepth 100000 in
theorem QRow.alloc {w : World} {B : Nat} {v : Value} {l : List Qe} (h : QRow w B v l) (o : Obj) : QRow (w.alloc o) B v l := h.below ((Below.refl _ _).alloc (Nat.le_refl _) _)
set_option maxRecDepth 100000 in
theorem QRow.view {w : World} {B : Nat} {v : Value} {l : List Qe} (h : QRow w B v l) : ∃ A cap, v = .slice A l.length cap ∧ l.length ≤ cap ∧ (A = none → cap = 0) ∧ Reps w A l := by
  rcases h.2 with ⟨rfl, h0⟩ | ⟨g, cap, cur, rfl, hb, hg, hnc, hm, hs, ht⟩
  · obtain rfl : l = [] := List.eq_nil_of_length_eq_zero h0
    exact ⟨none, 0, rfl, Nat.le_refl _, fun _ => rfl, Reps.nil _ _⟩
  · exact ⟨some ⟨g, 0, none⟩, cap, rfl, hnc, (fun e => by cases e), Reps.of_cells fun j v hv => World.ownsRow.cells h (g := g) rfl j v hv⟩
set_option maxRecDepth 100000 in
theorem QRow.form {w : World} {B : Nat} {v : Value} {l : List Qe} (h : QRow w B v l) : ∃ A n cap, v = .slice A n cap ∧ n = l.length := by
  obtain ⟨A, cap, e, _⟩ := h.view
  exact ⟨A, _, cap, e, rfl⟩
set_option maxRecDepth 100000 in
theorem QRow.grown {w w0 w' : World} {B : Nat} {v : Value} {l : List Qe} (ho : QRow w B v l) (hg : w.grownBy w' v.ownBlock) (hb : Below B w0 w) (hB : B ≤ w.heap.size) : Below B w0 w' :=
  hb.grown hg hB (fun k hk => (World.ownsRow.lt ho k hk).1)
set_option maxRecDepth 100000 in
theorem own_ne4 {w : World} {B B' n n' s s' : Nat} {e e' : TypeId} {v v' : Value} {xs xs' : List Value} (h : w.ownsRow B e s v n xs) (h' : w.ownsRow B' e' s' v' n' xs') (hne : e ≠ e') : v.ownBlock = none ∨ v.ownBlock ≠ v'.ownBlock := by
  rcases h.2 with ⟨rfl, _⟩ | ⟨g, cap, cur, rfl, _, hg, _⟩
  · exact .inl rfl
  · right
    rcases h'.2 with ⟨rfl, _⟩ | ⟨g', cap', cur', rfl, _, hg', _⟩
    · simp [Value.ownBlock]
    · intro he
      simp only [Value.ownBlock, Option.some.injEq] at he
      subst he
      rw [hg] at hg'
      injection hg' with h1
      injection h1 with h1 h2 h3
      exact hne h2
set_option maxRecDepth 100000 in
/-- blocks of texts stay where a row of answers grows -/
theorem Mine.grown {w w' : World} {B B' : Nat} {l m : List Qe} {v : Value} (h : Mine w B l) (hv : QRow w B' v m) (hg : w.grownBy w' v.ownBlock) : Mine w' B l := fun x hx =>
  World.ownsRow.kept (h x hx) hg (own_ne4 (h x hx) hv (by decide))
set_option maxRecDepth 100000 in
theorem Mine.txs {w : World} {B : Nat} {l : List Qe} (h : Mine w B l) : Txs w l := fun x hx => by
  have h1 := h x hx
  refine ⟨(SRow.texts h1).2, ?_⟩
  have h2 := h1.2
  unfold qlv at h2
  rcases h2 with ⟨e, _⟩ | ⟨g', cp, cur', e, _, _, h5, _⟩
  · injection e with e1 e2 e3
    rw [e3]
    simp [e2]
  · injection e with e1 e2 e3
    rw [e3, e1]
    rw [List.length_map] at e2 h5
    exact ⟨h5, fun e => by cases e⟩
set_option maxRecDepth 100000 in
theorem rep_info : (Tryd.prog.info? 25).map (fun i => (i.zero, i.size, i.bytes)) = some (some (.agg #[.int .i64 0, .string ⟨#[]⟩, .int .i64 0, .slice none 0 0]), 4, 56) := by kernel_rfl
set_option maxRecDepth 100000 in
theorem rep_parts : ∃ i, Tryd.prog.info? 25 = some i ∧ i.zero = some (.agg #[.int .i64 0, .string ⟨#[]⟩, .int .i64 0, .slice none 0 0]) ∧ i.size = 4 ∧ i.bytes = 56 := by
  obtain ⟨i, h, a, b, c⟩ := info_parts rep_info
  exact ⟨i, h, a, b, c⟩
set_option maxRecDepth 100000 in
/-- an answer comes behind -/
theorem wpList_append_rep {w : World} {ops : Array Oper} {rest : List Oper} {o : Oper} {a : Act} {Q : Exit → Act → World → Prop} (hgd : o.guard = none) (s x : Operand)
    (ho : o.op = .call { callee := .builtin .append, args := #[s, x], argTypes := #[22, 22] })
    (B : Nat) (v : Value) (l : List Qe) (hs : a.eval s = v) (hown : QRow w B v l) (g : Nat) (y : Qe) (hx : a.eval x = .slice (some ⟨g, 0, none⟩) 1 1)
    (hg : w.heap[g]? = some (.cells #[.int .i64 y.1.k, .string (bat y.1.t), .int .i64 y.1.n, qlv y] 25 (0, 0))) (hn : l.length ≤ 1048576) (hB : B ≤ w.heap.size)
    (h : ∀ v' w', QRow w' B v' (l ++ [y]) → w.grownBy w' v.ownBlock → wpList Tryd.prog ops Q rest (a.put o.dst v') w') : wpList Tryd.prog ops Q (o :: rest) a w := by
  obtain ⟨i0, hi, hz0, hz1, hz2⟩ := rep_parts
  refine wpList_append_own w hgd s x 22 ho B 25 i0 _ 4 56 Tryd.underlying22 hi hz0 hz1 hz2 rfl (by decide) v l.length (qcells l) hs hown ⟨g, 0, none⟩ 1 1 (q4 y) hx rfl ?_ ?_ (by unfold maxLen; omega) (by omega) hB (fun v' w' h2 h3 _ => h v' w' ?_ h3)
  · intro j u hj
    have : ((⟨g, 0, none⟩ : Addr).add j) = ⟨g, j, none⟩ := by unfold Addr.add; split <;> simp_all
    rw [this, cell_of_row _ _ _ _ _ _ hg]
    simpa using hj
  · intro u hu
    have := qcells_one [y] u (by simpa [qcells] using hu)
    exact this
  · unfold QRow
    rw [List.length_append, qcells_append]
    simpa [qcells] using h2
/-- what all of them come to, some read already -/
def fin (p : List Rep) (R : List Rep × Nat) : List Rep × Nat := if R.2 = 0 then (p ++ R.1, 0) else ([], R.2)
set_option maxRecDepth 100000 in
theorem fin_nil {s : Bytes} : fin [] (all s) = all s := by
  have key : ∀ (n : Nat) (s : Bytes), s.length ≤ n → fin [] (all s) = all s := by
    intro n
    induction n with
    | zero =>
      intro s hs
      obtain rfl : s = [] := List.eq_nil_of_length_eq_zero (by omega)
      rfl
    | succ n ih =>
      intro s hs
      by_cases h0 : s = []
      · subst h0; rfl
      · cases hd : decR s with
        | err e =>
          rw [all_err h0 hd]
          have : e = 8 ∨ e = 9 := (dec_mono s []).2 e hd |>.1
          unfold fin
          rw [if_neg (by simp; omega)]
        | ok x r =>
          rw [all_ok hd]
          rcases hr : all r with ⟨l, e⟩
          cases e with
          | zero => rfl
          | succ e => rfl
  exact key s.length s (Nat.le_refl _)
set_option maxRecDepth 100000 in
theorem fin_ok {p : List Rep} {s r : Bytes} {x : Rep} (h : decR s = .ok x r) : fin p (all s) = fin (p ++ [x]) (all r) := by
  rw [all_ok h]
  rcases hr : all r with ⟨l, e⟩
  cases e with
  | zero => simp [fin]
  | succ e => simp [fin]
set_option maxRecDepth 100000 in
theorem fin_err {p : List Rep} {s : Bytes} {e : Nat} (h0 : s ≠ []) (h : decR s = .err e) : fin p (all s) = ([], e) ∧ (e = 8 ∨ e = 9) := by
  have he : e = 8 ∨ e = 9 := (dec_mono s []).2 e h |>.1
  refine ⟨?_, he⟩
  rw [all_err h0 h]
  unfold fin
  rw [if_neg (by simp; omega)]
set_option maxRecDepth 100000 in
theorem fin_end {p : List Rep} : fin p (all []) = (p, 0) := by simp [fin, all_nil]
/-- all that bytes have, or an error -/
def AllRes (R : List Rep × Nat) (B : Nat) (e : Ending) (w' : World) : Prop :=
  (R.2 = 0 ∧ ∃ v L, e = .returned (.tuple #[v, .int .i64 0]) ∧ QRow w' B v L ∧ Mine w' B L ∧ L.map (·.1) = R.1) ∨ (R.2 ≠ 0 ∧ R.1 = [] ∧ e = .returned (.tuple #[.slice none 0 0, .int .i64 (R.2 : Nat)]))
end Go.Proofs.YtflmolhkbpicbaaDoor.Ry
/-
  What the document's own All answers, in any world.
-/
namespace Go.Proofs.YtflmolhkbpicbaaDoor.Ry
open Go.RowKit

def slenOf : Value → Nat
  | .slice _ n _ => n
  | _ => 0
abbrev rs (l : List Qe) : List Rep := l.map (·.1)
set_option maxRecDepth 100000 in
theorem Mine.push {w w' : World} {B B' : Nat} {l m : List Qe} {v : Value} {x : Qe} (h : Mine w B l) (hx : SRow w B (qlv x) (x.1.l.map bat)) (hv : QRow w B' v m) (hg : w.grownBy w' v.ownBlock) : Mine w' B (l ++ [x]) :=
  Mine.snoc (h.grown hv hg) (World.ownsRow.kept hx hg (own_ne4 hx hv (by decide)))
/-- what is left, what was read -/
def AllInv (l : Bytes) (R : List Rep × Nat) (w : World) (b v : Value) (wr : World) : Prop :=
  ∃ (r : Bytes) (A : Option Addr) (cap : Nat) (L : List Qe), b = .slice A r.length cap ∧ r.length ≤ cap ∧ L.length + r.length ≤ l.length ∧ Hid (Bts w A r ∧ QRow wr w.heap.size v L ∧ Mine wr w.heap.size L ∧ Below w.heap.size w wr) ∧ Hid (fin (rs L) (all r) = R)

set_option maxHeartbeats 4000000 in
set_option maxRecDepth 100000 in
theorem all_calls (A : Option Addr) (cap : Nat) (l : Bytes) (w : World) (hA : Bts w A l) (hl : l.length ≤ 65000) (hcap : l.length ≤ cap) :
    Calls Tryd.prog 22 #[.slice A l.length cap] w fun e w' => AllRes (all l) w.heap.size e w' ∧ Below w.heap.size w w' := by
  generalize hR : all l = R
  have HR := Lib.hid hR
  have HA := Lib.hid hA
  clear hR hA
  go_enter Tryd.func22, Tryd.ntmps22
  go_wp2_with fail
  go_loopw [0, 4] (fun b v wr => AllInv l R w b v wr) (fun b _ _ => slenOf b)
  case atStart => exact ⟨l, A, cap, [], rfl, hcap, by simp, Lib.hid ⟨HA.out, QRow.nil _ _, Mine.nil _ _, Below.refl _ _⟩, Lib.hid (by rw [← HR.out]; exact fin_nil)⟩
  case round =>
    obtain ⟨r, A, cap, L, rfl, hc, hlen, H, HF⟩ := hrel
    obtain ⟨V, n0, vc, rfl, hn0⟩ := H.out.2.1.form
    have HN0 := Lib.hid hn0
    clear hn0 HR HA
    by_cases h0 : r = []
    · subst h0
      have HE : Hid (R = (rs L, 0)) := Lib.hid (by rw [← HF.out]; exact fin_end)
      clear HF
      go_wp2_with fail
      go_ret2
      rw [HE.out]
      exact ⟨.inl ⟨rfl, _, L, rfl, H.out.2.1, H.out.2.2.1, rfl⟩, H.out.2.2.2⟩
    · have hpos := List.length_pos_iff.2 h0
      have i1 : (0 : Int) < (r.length : Int) := by omega
      have DC := fun w h => decode_calls A cap r w h (by omega) hc
      have H0 := Lib.hid h0
      clear h0
      cases hd : decR r with
      | err k =>
        rw [hd] at DC
        obtain ⟨he, hk⟩ := fin_err (p := rs L) H0.out hd
        have HE : Hid (R = ([], k)) := Lib.hid (by rw [← HF.out]; exact he)
        have t1 : ((k : Int) != 0) = true := by rw [bne_iff_ne]; omega
        clear HF he hd
        go_wp2_with fail
        refine (DC _ (H.out.1.keep H.out.2.2.2)).mono ?_
        rintro e w1 ⟨rfl, hb1⟩
        have HB := Lib.hid (H.out.2.2.2.trans (hb1.mono H.out.2.2.2.size))
        clear hb1 H DC
        go_wp2_with fail
        go_ret2
        rw [HE.out]
        exact ⟨.inr ⟨by simp; omega, rfl, rfl⟩, HB.out.alloc HB.out.size _⟩
      | ok x q =>
        rw [hd] at DC
        have hq := dec_len hd
        have HE := Lib.hid ((fin_ok (p := rs L) hd).symm.trans HF.out)
        obtain ⟨en, hen⟩ : ∃ en, en = enc x := ⟨_, rfl⟩
        have hr := (dec_ok hd).2
        obtain ⟨n, hn⟩ : ∃ n, n = r.length - q.length := ⟨_, rfl⟩
        have hqd : q = r.drop n := by
          rw [hn, hr]
          simp
        have HQD := Lib.hid hqd
        clear HF hd hr hqd hen en
        go_wp2_with fail
        refine (DC _ (H.out.1.keep H.out.2.2.2)).mono ?_
        rintro e w1 ⟨⟨A1, c1, rfl, hs1⟩, hb1⟩
        rw [← hn]
        have HBT := Lib.hid H.out.1
        have H1 : Hid (QRow w1 w.heap.size (.slice V n0 vc) L ∧ Mine w1 w.heap.size L ∧ Below w.heap.size w w1 ∧ SRow w1 w.heap.size (qlv (x, A1, c1)) (x.l.map bat)) := Lib.hid ⟨H.out.2.1.below hb1, H.out.2.2.1.below hb1, H.out.2.2.2.trans (hb1.mono H.out.2.2.2.size), hs1.lower H.out.2.2.2.size⟩
        have HLN : Hid (L.length ≤ 1048576) := Lib.hid (by omega)
        have HM : Hid (1 ≤ n ∧ q.length = r.length - n) := Lib.hid (by omega)
        have hn1 : n ≤ r.length := by omega
        obtain ⟨a, rfl, -⟩ := HBT.out.at_ (i := 0) hpos
        clear hs1 hb1 H DC hn hq
        go_wp2_with (at_builtin; refine wpList_append_rep rfl _ _ rfl w.heap.size _ L rfl ((H1.out.1.alloc _).alloc _) (w1.heap.size + 1) (x, A1, c1) rfl (Box.new1 _ _ _ _) HLN.out ?c5 ?_)
        case c5 => have := H1.out.2.2.1.size; simp; omega
        intro v3 w10 ho10 hg10
        have HB10 := Lib.hid (QRow.grown ((H1.out.1.alloc _).alloc _) hg10 ((H1.out.2.2.1.alloc H1.out.2.2.1.size _).alloc (by have := H1.out.2.2.1.size; simp; omega) _) (by have := H1.out.2.2.1.size; simp; omega))
        have HM10 := Lib.hid (Mine.push ((H1.out.2.1.alloc _).alloc _) ((H1.out.2.2.2.alloc _).alloc _) ((H1.out.1.alloc _).alloc _) hg10)
        have HO10 := Lib.hid ho10
        clear ho10 hg10 H1
        by_cases hcn : n = cap
        · have hq0 : q = [] := List.eq_nil_of_length_eq_zero (by have := HM.out; omega)
          go_wp2_with fail
          go_roundw
          case rel => exact ⟨[], some a, 0, L ++ [(x, A1, c1)], rfl, by simp, by have := HM.out; simp; omega, Lib.hid ⟨fun i hi => absurd hi (by simp), HO10.out, HM10.out, HB10.out⟩, Lib.hid (by rw [← HE.out, hq0]; simp [rs])⟩
          case measure => have := HM.out; simp [slenOf]; omega
        · have hn2 : n < cap := by omega
          have hn3 : ¬ cap ≤ n := by omega
          go_wp2_with fail
          go_roundw
          case rel =>
            refine ⟨r.drop n, some (a.add n), cap - n, L ++ [(x, A1, c1)], ?_, by rw [List.length_drop]; omega, by have := HM.out; rw [List.length_append, List.length_drop]; simp; omega, Lib.hid ⟨?_, HO10.out, HM10.out, HB10.out⟩, Lib.hid (by rw [← HE.out, ← HQD.out]; simp [rs])⟩
            · rw [List.length_drop]
            · intro i hi
              rw [List.length_drop] at hi
              obtain ⟨a', e, hcc⟩ := HBT.out (n + i) (by omega)
              injection e with e
              subst e
              exact ⟨_, rfl, by rw [Addr.add_add, List.getElem_drop]; exact hcc⟩
          case measure => have := HM.out; simp [slenOf]; omega
end Go.Proofs.YtflmolhkbpicbaaDoor.Ry
