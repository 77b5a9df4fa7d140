/-
  The walk of RespTwo.
-/
import Derived.Test.YtgjedhdnnfdcgaaRspTwM
import Derived.Test.YtgjedhdnnfdcgaaRspFed
namespace Go.Proofs.Ytgjedhdnnfdcgaa.Rp
open Go.RowKit

theorem lit_add (g h : Nat) : (⟨g, 0, none⟩ : Addr).add h = ⟨g, h, none⟩ := by unfold Addr.add; split <;> simp_all
theorem BS.take {S : Nat → Prop} {w : World} {A : Option Addr} {cap : Nat} {l : Bytes} (h : BS S w A cap l) (n : Nat) : BS S w A cap (l.take n) where
  bts := h.bts.take n
  le := by rw [List.length_take]; have := h.le; omega
  nil := h.nil
  fr := fun a e hl => h.fr a e (fun e2 => hl (by rw [e2]; simp))
theorem SRow.ts {w : World} {B cap n : Nat} {A : Option Addr} {l : List Bytes} (h : SRow w B (.slice A n cap) (l.map bat)) (hl : l ≠ []) : TS (fun b => B ≤ b ∧ b < w.heap.size) w [(l, A, cap)] := fun x hx => by
  rw [List.mem_singleton] at hx
  subst hx
  rcases h.2 with ⟨_, h0⟩ | ⟨g, cp, cur, e, hB, hg, hc, _⟩
  · rw [List.length_map] at h0
    exact absurd (List.eq_nil_of_length_eq_zero h0) hl
  · have ht := (SRow.texts h).2
    injection e with e1 e2 e3
    subst e1 e3
    exact ⟨⟨g, 0, none⟩, cur, rfl, ⟨hB, (Array.getElem?_eq_some_iff.1 hg).1⟩, hg, ht, by simpa using hc⟩
/-- a block of texts that may be written -/
def SP (w : World) (g n : Nat) : Prop := ∃ cur : Array Value, w.heap[g]? = some (.cells cur 9 (0, 0)) ∧ ∀ q, q < n → ∃ t, cur[q]? = some (.string t)
theorem SP.cell {w : World} {g n q : Nat} (h : SP w g n) (hq : q < n) : ∃ t, w.cell? ⟨g, q, none⟩ = some (.string t) ∧ w.frozen? ⟨g, q, none⟩ = false := by
  obtain ⟨cur, hg, hc⟩ := h
  obtain ⟨t, ht⟩ := hc q hq
  exact ⟨t, by rw [cell_of_row _ _ _ _ _ _ hg]; exact ht, by simp [World.frozen?, hg]⟩
theorem SP.put {w : World} {g n q : Nat} (h : SP w g n) (s : ByteArray) : SP (w.setCell ⟨g, q, none⟩ (.string s)) g n := by
  obtain ⟨cur, hg, hc⟩ := h
  refine ⟨cur.setIfInBounds q (.string s), ?_, fun j hj => ?_⟩
  · rw [setCell_eq_setRow w g q cur _ (0, 0) (.string s) hg]
    exact setRow_heap w g _ _ _ _ hg
  · obtain ⟨t, ht⟩ := hc j hj
    by_cases e : q = j
    · subst e
      have hl := (Array.getElem?_eq_some_iff.1 ht).1
      exact ⟨s, by rw [Array.getElem?_setIfInBounds_self_of_lt hl]⟩
    · exact ⟨t, by rw [Array.getElem?_setIfInBounds_ne e]; exact ht⟩
theorem SP.of {w : World} {g : Nat} {cur : Array Value} {ps : List ByteArray} (hb : w.heap[g]? = some (.cells cur 9 (0, 0))) (ht : Texts w (some ⟨g, 0, none⟩) ps) : SP w g ps.length := by
  refine ⟨cur, hb, fun q hq => ?_⟩
  obtain ⟨a, e, hc⟩ := ht q hq
  injection e with e
  subst e
  have e2 : (⟨g, 0, none⟩ : Addr).add q = ⟨g, q, none⟩ := by unfold Addr.add; split <;> simp_all
  rw [e2, cell_of_row _ _ _ _ _ _ hb] at hc
  exact ⟨_, hc⟩
/-- the state behind both readers' first food -/
structure P5 (C : RC) (w w5 : World) (own : List Nat) (v : Nat) (a : Bytes) (h : Nat) (V : Option Addr) (cc : Nat) (A : Option Addr) (L : List Cm) (i : Nat) : Prop where
  one : One C w w5 own v (a.take h)
  len : L.map (·.1) = cmds (a.take h)
  c : (a = [] ∧ V = none ∧ cc = 0) ∨ ∃ g, a ≠ [] ∧ a.length ≤ cc ∧ CC w5 V cc a i g ∧ Free own w5 g ∧ w.heap.size ≤ g ∧ Handed (fun b => (Free own w5 b ∧ w.heap.size ≤ b) ∧ b ≠ g) w5 A L
  hand : Handed (fun b => Free own w5 b ∧ w.heap.size ≤ b) w5 A L

theorem P5.put {C : RC} {w w5 : World} {own : List Nat} {v h cc i : Nat} {a : Bytes} {V A : Option Addr} {L : List Cm} (p : P5 C w w5 own v a h V cc A L i) {g : Nat} (hV : V = some ⟨g, 0, none⟩) (x : Value) : P5 C w (w5.setCell ⟨g, i, none⟩ x) own v a h V cc A L (i + 1) := by
  rcases p.c with ⟨_, e, _⟩ | ⟨g2, ha, hc, hcc, hf, hw, hH⟩
  · rw [hV] at e; cases e
  · obtain rfl : g = g2 := by
      have := hcc.1
      rw [hV] at this
      injection this with this
      injection this
    have hk : ∀ b, b ≠ g → (w5.setCell ⟨g, i, none⟩ x).heap[b]? = w5.heap[b]? := fun b hb => Below.heap_setCell _ _ _ _ hb
    have hH2 : Handed (fun b => (Free own (w5.setCell ⟨g, i, none⟩ x) b ∧ w.heap.size ≤ b) ∧ b ≠ g) (w5.setCell ⟨g, i, none⟩ x) A L := hH.goes fun b hb => ⟨hk b hb.2, ⟨⟨by rw [World.size_setCell]; exact hb.1.1.1, hb.1.1.2⟩, hb.1.2⟩, hb.2⟩
    exact ⟨p.one.put hf hw i x, p.len, .inr ⟨g, ha, hc, hcc.put x, ⟨by rw [World.size_setCell]; exact hf.1, hf.2⟩, hw, hH2⟩, hH2.mono fun b hb => hb.1⟩
theorem P5.cell {C : RC} {w w5 : World} {own : List Nat} {v h cc i : Nat} {a : Bytes} {V A : Option Addr} {L : List Cm} (p : P5 C w w5 own v a h V cc A L i) (hi : i < a.length) : ∃ g, V = some ⟨g, 0, none⟩ ∧ a.length ≤ cc ∧ w5.cell? ⟨g, i, none⟩ = some (.int .u8 (a[i].toNat : Int)) ∧ w5.frozen? ⟨g, i, none⟩ = false := by
  rcases p.c with ⟨e, _⟩ | ⟨g2, ha, hc, hcc, hf, hw, hH⟩
  · subst e; simp at hi
  · have hcc2 := hcc
    obtain ⟨_, cur, hg, _⟩ := hcc2
    exact ⟨g2, hcc.1, hc, hcc.cell (Nat.le_refl _) hi, by simp [World.frozen?, hg]⟩
theorem wpList_append_txs {w : World} {ops : Array Oper} {rest : List Oper} {o : Oper} {a : Act} {Q : Exit → Act → World → Prop} (hgd : o.guard = none) (s x : Operand)
    (ho : o.op = .call { callee := .builtin .append, args := #[s, x], argTypes := #[36, 36] })
    (B : Nat) (hs : a.eval s = .slice none 0 0) (ad : Addr) (cap n : Nat) (ps : List ByteArray) (hx : a.eval x = .slice (some ad) n cap) (hm : Texts w (some ad) ps) (hmn : n = ps.length)
    (hn : ps.length ≤ 1048576) (hB : B ≤ w.heap.size)
    (h : ∀ v' w', SRow w' B v' ps → Below w.heap.size w w' → wpList Try.prog ops Q rest (a.put o.dst v') w') : wpList Try.prog ops Q (o :: rest) a w := by
  obtain ⟨i0, hi, hz0, hz1, hz2⟩ := str_parts
  subst hmn
  refine wpList_append_own w hgd s x 36 ho B 9 i0 _ 1 16 Try.underlying36 hi hz0 hz1 hz2 rfl (by decide) (.slice none 0 0) 0 [] hs (World.ownsRow_nil _ _ _ _) ad ps.length cap (ps.map fun p => .string p) hx (by simp) ?_ ?_ (by unfold maxLen; omega) (by omega) hB (fun v' w' h2 h3 _ => h v' w' ?_ ⟨h3.os, h3.tape, h3.output, h3.size, fun k hk => h3.block k hk (by simp [Value.ownBlock])⟩)
  · intro j u hj
    have hj' : j < ps.length := by
      have := (List.getElem?_eq_some_iff.1 hj).1
      simpa using this
    obtain ⟨a', e, hc⟩ := hm j hj'
    injection e with e
    subst e
    rw [hc]
    simp [hj'] at hj
    rw [hj]
  · intro u hu
    obtain ⟨c, _, rfl⟩ := List.mem_map.1 hu
    rfl
  · unfold SRow
    simpa using h2
theorem RRow.lower {w : World} {B B' : Nat} {v : Value} {l : List Cm} (h : RRow w B v l) (hb : B' ≤ B) : RRow w B' v l := by
  refine ⟨h.1, ?_⟩
  rcases h.2 with h2 | ⟨g, cap, cur, hv, hB, r⟩
  · exact .inl h2
  · exact .inr ⟨g, cap, cur, hv, by omega, r⟩

set_option maxHeartbeats 4000000 in
set_option maxRecDepth 100000 in
theorem two_law (C : RC) (A : Option Addr) (cap : Nat) (a : Bytes) (D : Option Addr) (capd : Nat) (b : Bytes) (w : World) (hA : BS (fun x => x < w.heap.size) w A cap a) (hD : BS (fun x => x < w.heap.size) w D capd b) (hl : a.length + b.length ≤ 1048576) :
    Calls Try.prog 9 #[.slice A a.length cap, .slice D b.length capd] w fun e w' => e = .returned (.bool true) ∧ Below w.heap.size w w' := by
  have HA := Lib.hid hA
  have HD := Lib.hid hD
  clear hA hD
  by_cases h1 : a.length + b.length ≤ 1200
  · have i1 : ¬ (1200 : Int) < (a.length : Int) + (b.length : Int) := by omega
    obtain ⟨h, hh⟩ : ∃ h, h = a.length / 2 := ⟨_, rfl⟩
    have eh : (a.length : Int) / 2 = (h : Int) := by omega
    have hha : h ≤ a.length := by omega
    have hhb : h < a.length ∨ a.length = 0 := by omega
    clear hh
    go_enter Try.func9, Try.ntmps9
    go_wp2_with fail
    refine (C.new_ _).mono ?_
    rintro e w1 ⟨v1, o1, rfl, a1, b1, l1⟩
    have H1 := Lib.hid (show One C w w1 o1 v1 [] from ⟨b1, a1, l1⟩)
    clear a1 b1 l1
    go_wp2_with fail
    refine (C.new_ _).mono ?_
    rintro e w2 ⟨v2, o2, rfl, a2, b2, l2⟩
    have H12 := Lib.hid (H1.out.below b2)
    have H2 := Lib.hid (show One C w w2 o2 v2 [] from ⟨H1.out.1.trans (b2.mono H1.out.1.size), a2, fun x hx => Nat.le_trans H1.out.1.size (l2 x hx)⟩)
    have hap : ∀ x ∈ o1, x ∉ o2 := fun x hx hc => by have := C.good H1.out.2.1 x hx; have := l2 x hc; omega
    have ho1 : ∀ x ∈ o1, x < w2.heap.size := C.good H12.out.2.1
    have ho2 : ∀ x ∈ o2, x < w2.heap.size := C.good H2.out.2.1
    have HAP := Lib.hid (And.intro hap (And.intro ho1 ho2))
    clear a2 b2 l2 hap ho1 ho2 H1
    go_wp2_with fail
    have hA2 := (HA.out.goes (lt_stands H2.out.1))
    refine (copy_calls A cap a _ hA2.bts hA2.nil (by omega)).mono ?_
    rintro e w3 ⟨v3, rfl, ho3, hz3, hb3⟩
    obtain ⟨V, cc, rfl, hbt, hcc, hcn, hcb⟩ := ho3.view
    have H13 := Lib.hid (H12.out.below hb3)
    have H23 := Lib.hid (H2.out.below hb3)
    have hB3 : BS (Free o1 w3) w3 V cc a := ⟨hbt, hcc, hcn, fun x e _ => ⟨(hcb x e).2, fun hc => by have := HAP.out.2.1 _ hc; have := (hcb x e).1; omega⟩⟩
    have HB3 := Lib.hid (hB3.take h)
    have HHL : Hid ((a.take h).length = h) := Lib.hid (by rw [List.length_take]; omega)
    have hz : w2.heap.size ≤ w3.heap.size := hb3.size
    have HC3 := Lib.hid ho3
    have HZ3 := Lib.hid hz3
    have HCB := Lib.hid hcb
    have HZ := Lib.hid hz
    have HW2 := Lib.hid (show w.heap.size ≤ w2.heap.size from H2.out.1.size)
    have hhc : h ≤ cc := by omega
    clear hA2 hb3 hbt hcn hcb hB3 H12 H2 ho3 hz3 hz
    go_wp2_with fail
    have hf := C.feed_ H13.out.2.1 V cc (a.take h) HB3.out (by rw [HHL.out]; simp; omega)
    rw [HHL.out, List.nil_append] at hf
    refine hf.mono ?_
    clear hf
    rintro e w4 ⟨own, A4, c4, L, rfl, -, hL, hH4, a4, k4⟩
    have H14 := Lib.hid (H13.out.turn a4 k4)
    have H24 := Lib.hid (show One C w w4 o2 v2 [] from ⟨k4.1.below H23.out.1 (fun x hx => H13.out.2.2 x hx) H23.out.1.size, C.keep H23.out.2.1 k4.1 (fun x hx hc => HAP.out.1 x hc hx), H23.out.2.2⟩)
    have HL : Hid (L.map (·.1) = cmds (a.take h)) := Lib.hid hL
    have HH4 := Lib.hid hH4
    have HK4 := Lib.hid k4
    obtain ⟨ln, hln⟩ : ∃ ln, ln = L.length := ⟨_, rfl⟩
    rw [← hln]
    have HLN := Lib.hid hln
    clear hL hH4 a4 k4 HB3 H23 hln
    go_wp2_with fail
    refine (C.feed_ H24.out.2.1 D capd b (HD.out.goes H24.out.begun) (by simp; omega)).mono ?_
    rintro e w5 ⟨own2, A5, c5, L5, rfl, -, -, -, -, k5⟩
    have hown : ∀ x ∈ own, x ∉ o2 := fun x hx hc => by
      have h1 := HAP.out.2.2 x hc
      rcases HK4.out.2 x hx with h2 | h2
      · exact HAP.out.1 x h2 hc
      · have := HZ.out; omega
    have H15 : One C w w5 own v1 (a.take h) := ⟨k5.1.below H14.out.1 (fun x hx => H24.out.2.2 x hx) H14.out.1.size, C.keep H14.out.2.1 k5.1 hown, H14.out.2.2⟩
    have hso : ∀ x, (x ∈ o1 ∨ w3.heap.size ≤ x) → x ∉ o2 := fun x hx hc => hx.elim (fun h => HAP.out.1 x h hc) (fun h => by have := HAP.out.2.2 x hc; have := HZ.out; omega)
    have hws : ∀ x, (x ∈ o1 ∨ w3.heap.size ≤ x) → w.heap.size ≤ x := fun x hx => hx.elim (H13.out.2.2 x) (fun h => Nat.le_trans H13.out.1.size h)
    have hst : ∀ x, Out o1 own w3 w4 x → w5.heap[x]? = w4.heap[x]? ∧ Free own w5 x ∧ w.heap.size ≤ x := fun x hx => ⟨k5.1.block x hx.1.1 (hso x hx.2), ⟨Nat.lt_of_lt_of_le hx.1.1 k5.1.size, hx.1.2⟩, hws x hx.2⟩
    have hP : P5 C w w5 own v1 a h V cc A4 L 0 := by
      refine ⟨H15, HL.out, ?_, HH4.out.goes fun x hx => ⟨(hst x hx).1, (hst x hx).2⟩⟩
      by_cases ha : a = []
      · have := HZ3.out ha
        injection this with e1 e2 e3
        exact .inl ⟨ha, e1, e3⟩
      · obtain ⟨g, hg1, hg2, hg3, hg4, _⟩ := BRow.cc HC3.out ha
        have hgo : g ∉ o1 := fun hc => by have := HAP.out.2.1 g hc; omega
        have hgo2 : g ∉ o2 := fun hc => by have := HAP.out.2.2 g hc; omega
        have hgw : g ∉ own := fun hc => (HK4.out.2 g hc).elim hgo (fun h => by omega)
        have hg4b : g < w4.heap.size := Nat.lt_of_lt_of_le hg2 HK4.out.1.size
        have hk : w5.heap[g]? = w3.heap[g]? := (k5.1.block g hg4b hgo2).trans (HK4.out.1.block g hg2 hgo)
        refine .inr ⟨g, ha, hg4, hg3.goes hk, ⟨Nat.lt_of_lt_of_le hg4b k5.1.size, hgw⟩, Nat.le_trans HW2.out hg1, HH4.out.goes fun x hx => ⟨(hst x hx).1, (hst x hx).2, fun e => ?_⟩⟩
        subst e
        rcases hx.2 with h | h
        · exact hgo h
        · omega
    have HP := Lib.hid hP
    clear hown H15 hso hws hst hP k5 H13 H14 H24 HH4 HK4 HC3 HZ3 HCB HZ HD HAP
    go_wp2_with fail
    go_loopw [11] (fun i wr => ∃ k : Nat, k ≤ h ∧ i = .int .i64 (k : Nat) ∧ Hid (P5 C w wr own v1 a h V cc A4 L k)) (fun i _ => h - (intOf i).toNat)
    case atStart => exact ⟨0, Nat.zero_le _, rfl, HP⟩
    case round =>
      clear HP
      obtain ⟨k, hk, rfl, HP⟩ := hrel
      by_cases hlt : k < h
      · obtain ⟨g, rfl, hgc, c0, z0⟩ := HP.out.cell (show k < a.length by omega)
        have j1 : (k : Int) < (h : Int) := by omega
        have j2 : (k : Int) < (a.length : Int) := by omega
        have HP2 := Lib.hid (HP.out.put rfl (.int .u8 0))
        clear HP
        go_wp2_with fail
        go_roundw
        case rel => exact ⟨k + 1, by omega, by go_num, HP2⟩
        case measure => simp [intOf]; omega
      · have hkh : h = k := by omega
        subst hkh
        have j1 : ¬ (h : Int) < (h : Int) := by omega
        have hlb : ln ≤ 1048576 := by
          have h1 := congrArg List.length HP.out.len
          rw [List.length_map, ← HLN.out] at h1
          have := cmds_le a h
          omega
        clear hk hlt
        go_wp2_with fail
        go_loopw [12, 13] (fun u i wx => ∃ (q : Nat) (K : List Cm), q ≤ ln ∧ i = .int .i64 (q : Nat) ∧ Hid (Tw wr wx L q q u K)) (fun _ i _ => ln - (intOf i).toNat)
        case atStart => exact ⟨0, [], Nat.zero_le _, rfl, Lib.hid ⟨Only.refl _ _, RRow.nil _ _, TS.nil _ _, rfl⟩⟩
        case round =>
          rename World => w6
          obtain ⟨j, K, hj, rfl, HT⟩ := hrel
          obtain ⟨U, un, uc, rfl, hun⟩ := RRow.form HT.out.row
          clear hun
          by_cases hlt : j < ln
          · have hjl : j < L.length := by have := HLN.out; omega
            obtain ⟨aa, ea, c0⟩ := HT.out.outer HP.out.hand (fun b hb => hb.1.1) hjl
            subst ea
            obtain ⟨g, cur, eg, hs, hb, ht⟩ := HT.out.one HP.out.hand (fun b hb => hb.1.1) hjl (Nat.le_refl _)
            have hgl : g < wr.heap.size := hs.1.1
            have hbk : g ∈ (L.take (j + 1)).map blk := List.mem_map.2 ⟨L[j], List.mem_iff_getElem.2 ⟨j, by rw [List.length_take]; omega, List.getElem_take⟩, by unfold blk; rw [eg]⟩
            have hmem : L[j].1 ∈ cmds (a.take h) := by rw [← HP.out.len]; exact List.mem_map.2 ⟨L[j], List.getElem_mem hjl, rfl⟩
            have hmay := (canon (a.take h)).2.2 _ hmem
            obtain ⟨xa, XA, xc, hx⟩ : ∃ xa XA xc, L[j] = (xa, XA, xc) := ⟨_, _, _, rfl⟩
            rw [hx] at c0 eg ht hmay
            simp only [Cm.v] at c0 eg ht hmay
            subst eg
            obtain ⟨xn, hxn⟩ : ∃ xn, xn = xa.length := ⟨_, rfl⟩
            rw [← hxn] at c0
            have hxb : xn ≤ 50 := by have := hmay.2.1; omega
            have HX := Lib.hid hx
            have HXN := Lib.hid hxn
            have HTX := Lib.hid ht
            have HNE : Hid (xa ≠ []) := Lib.hid (fun e => by have := hmay.1; rw [e] at this; simp at this)
            have hxf : (xa.map bat).length ≤ 1048576 := by rw [List.length_map]; have := hmay.2.1; omega
            have HXF := Lib.hid hxf
            have HXL : Hid (xn = (xa.map bat).length) := Lib.hid (by rw [List.length_map]; exact hxn)
            have HBK := Lib.hid (And.intro hbk hgl)
            have HKL : Hid (K.length ≤ 1048576) := Lib.hid (by
              have h1 := congrArg List.length HT.out.eq
              rw [List.length_map, List.length_map, List.length_take] at h1
              have h2 := congrArg List.length HP.out.len
              rw [List.length_map] at h2
              have h3 := cmds_le a h
              omega)
            have i3 : (j : Int) < (ln : Int) := by omega
            clear hs hb hmem hmay hx hxn ht hxf hbk hgl
            go_wp2_with (at_builtin; refine wpList_append_txs rfl _ _ rfl wr.heap.size rfl ⟨g, 0, none⟩ xc xn (xa.map bat) rfl HTX.out HXL.out HXF.out HT.out.only.size ?_)
            intro v' w7 hso hsb
            have HT7 := Lib.hid (HT.out.below hsb)
            obtain ⟨O, on, oc, rfl, hon⟩ := hso.form
            have hon2 : on = xa.length := by rw [hon, List.length_map]
            have HON := Lib.hid hon2
            have HSO := Lib.hid hso
            clear hso hsb hon hon2 HT HTX c0
            go_wp2_with (at_builtin; refine wpList_append_row rfl _ _ rfl wr.heap.size _ K rfl (HT7.out.row.alloc _) w7.heap.size (xa, O, oc) rfl ?hg HKL.out ?c5 ?_)
            case hg => rw [heap_alloc_new]; simp only [Cm.v]; rw [HON.out]
            case c5 => have := HT7.out.only.size; simp; omega
            intro v'' w8 hr8 hg8
            have hal : Below w7.heap.size w7 (w7.alloc (.cells #[Value.slice O on oc] 36)) := (Below.refl _ _).alloc (Nat.le_refl _) _
            have hts : TS (fun b => wr.heap.size ≤ b ∧ b < (w7.alloc (.cells #[Value.slice O on oc] 36)).heap.size) (w7.alloc (.cells #[Value.slice O on oc] 36)) [(xa, O, oc)] := (SRow.ts HSO.out HNE.out).goes fun b hb => ⟨hal.block b hb.2, hb.1, Nat.lt_of_lt_of_le hb.2 hal.size⟩
            have HT8 := Lib.hid ((HT7.out.below hal).push hjl (x := (xa, O, oc)) (by rw [HX.out]) hts hr8 hg8)
            obtain ⟨U8, un8, uc8, rfl, hun8⟩ := RRow.form hr8
            have HSP : Hid (SP w8 g xn) := Lib.hid (by
              obtain ⟨g2, cur2, eg2, _, hb2, ht2⟩ := HT8.out.one HP.out.hand (fun b hb => hb.1.1) hjl (Nat.le_refl _)
              rw [HX.out] at eg2 ht2
              simp only at eg2 ht2
              injection eg2 with eg2
              injection eg2 with eg2
              subst eg2
              have := SP.of hb2 ht2
              rw [HXL.out]
              exact this)
            have HT9 := Lib.hid HT8.out.more
            clear hr8 hg8 hal hts hun8 HT7 HT8 HSO
            go_wp2_with fail
            go_loopw [15] (fun i wx => ∃ q : Nat, q ≤ xn ∧ i = .int .i64 (q : Nat) ∧ Hid (Tw wr wx L (j + 1) (j + 1) (.slice U8 un8 uc8) (K ++ [(xa, O, oc)]) ∧ SP wx g xn)) (fun i _ => xn - (intOf i).toNat)
            case atStart => exact ⟨0, Nat.zero_le _, rfl, Lib.hid ⟨HT9.out, HSP.out⟩⟩
            case round =>
              rename World => w9
              clear HT9 HSP
              obtain ⟨q, hq, rfl, HI⟩ := hrel
              obtain ⟨aa2, ea2, c0⟩ := HI.out.1.outer HP.out.hand (fun b hb => hb.1.1) hjl
              injection ea2 with ea2
              subst ea2
              rw [HX.out] at c0
              simp only [Cm.v] at c0
              rw [← HXN.out] at c0
              by_cases hq2 : q < xn
              · obtain ⟨tt, c1, z1⟩ := SP.cell HI.out.2 hq2
                have j3 : (q : Int) < (xn : Int) := by omega
                have HI2 := Lib.hid (And.intro (HI.out.1.put HBK.out.1 HBK.out.2 q (.string ⟨#[63]⟩)) (SP.put (q := q) HI.out.2 ⟨#[63]⟩))
                clear HI
                go_wp2_with fail
                go_roundw
                case rel => exact ⟨q + 1, by omega, by go_num, HI2⟩
                case measure => simp [intOf]; omega
              · have j3 : ¬ (q : Int) < (xn : Int) := by omega
                clear hq2
                go_wp2_with fail
                go_roundw
                case rel => exact ⟨j + 1, _, by omega, by go_num, Lib.hid HI.out.1⟩
                case measure => simp [intOf]; omega
          · have hje : j = L.length := by have := HLN.out; omega
            have i3 : ¬ (j : Int) < (ln : Int) := by omega
            have hT := HT.out
            have hD : ∀ x ∈ (L.take j).map blk, x ∉ own ∧ w.heap.size ≤ x := fun x hx => by
              have := blk_take HP.out.hand j x hx
              exact ⟨this.1.2, this.2⟩
            have hOne := HP.out.one.only hT.only hD
            have hlo : ∀ x ∈ own, x < wr.heap.size := C.good HP.out.one.2.1
            have hSg : Sg C w w6 own v1 (a.take h) (.slice U un uc) K := ⟨hOne, hT.row.lower HP.out.one.1.size, fun g hg => by
              have := World.ownsRow.lt hT.row g hg
              exact ⟨this.2, fun hc => by have := hlo g hc; omega⟩, hT.ts.mono fun b hb => ⟨hb.2, fun hc => by have := hlo b hc; omega⟩⟩
            have hKL : K.map (·.1) = cmds (a.take h) := by rw [hT.eq, hje, List.take_length, HP.out.len]
            have hcc : (a = [] ∧ V = none ∧ cc = 0) ∨ ∃ g, V = some ⟨g, 0, none⟩ ∧ a ≠ [] ∧ h < cc ∧ BS (Free own w6) w6 (some ((⟨g, 0, none⟩ : Addr).add h)) (cc - h) (a.drop h) := by
              rcases HP.out.c with ⟨e1, e2, e3⟩ | ⟨g, hg1, hg2, hg3, hg4, hg5, hg6⟩
              · exact .inl ⟨e1, e2, e3⟩
              · have hgd : g ∉ (L.take j).map blk := fun hc => (blk_take hg6 j g hc).2 rfl
                have hk : w6.heap[g]? = wr.heap[g]? := hT.only.block g hg4.1 hgd
                have hpos : 0 < a.length := List.length_pos_iff.2 hg1
                exact .inr ⟨g, hg3.1, hg1, by omega, (hg3.goes hk).rest hg2 ⟨Nat.lt_of_lt_of_le hg4.1 hT.only.size, hg4.2⟩⟩
            have HCC := Lib.hid hcc
            have HSG := Lib.hid hSg
            have HKL := Lib.hid hKL
            have HAL : Hid (a.length ≤ 1048576) := Lib.hid (by omega)
            have HA6 := Lib.hid (HA.out.goes (lt_stands hOne.1))
            have HWE := Lib.hid (begins_errs a [] h)
            clear hje hT hD hOne hlo hSg hKL hcc HT HP
            go_upto_region 24 with (fail)
            go_cut [16, 17] (fun s16 s17 wx => ∃ A3 c3 n3, s16 = .slice A3 n3 c3 ∧ s17 = .int .i64 (errI a) ∧ Hid (CutEnd C a w v1 (.slice U un uc) A3 c3 n3 wx))
            case first =>
              rcases HCC.out with ⟨e1, e2, e3⟩ | ⟨g, e1, e2, e3, hBS⟩
              · subst e1 e2 e3
                obtain rfl : h = 0 := by simpa using hha
                have HF := Lib.hid (cut_feed (n := 0) (piece := []) HSG.out HKL.out HAL.out none 0 (BS.none_ (S := Free own w6) (w := w6) none 0 (fun _ => rfl)) rfl rfl)
                go_wp2_with fail
                refine HF.out.mono ?_
                rintro e w7 ⟨A3, c3, n3, rfl, hE⟩
                have HE := Lib.hid hE
                clear hE
                go_wp2_with fail
                go_meet
                case rel => exact ⟨A3, c3, n3, rfl, rfl, HE⟩
              · have hpos : 0 < a.length := List.length_pos_iff.2 e2
                subst e1
                have HF := Lib.hid (cut_feed (n := a.length - h) HSG.out HKL.out HAL.out (some ((⟨g, 0, none⟩ : Addr).add h)) (cc - h) hBS (List.take_append_drop h a) (by rw [List.length_drop]))
                have hac := lit_add g h
                rw [hac] at HF
                clear hBS
                go_wp2_with fail
                refine HF.out.mono ?_
                rintro e w7 ⟨A3, c3, n3, rfl, hE⟩
                have HE := Lib.hid hE
                clear hE
                go_wp2_with fail
                go_meet
                case rel => exact ⟨A3, c3, n3, rfl, rfl, HE⟩
            case rest =>
              obtain ⟨A3, c3, n3, rfl, rfl, HE⟩ := hcut
              obtain ⟨own3, L4, L3, sg3, hh3, hn3, hz3, hlm⟩ := Hid.out HE
              have hls : L4.length + L3.length = (cmds a).length := by
                have h1 := congrArg List.length hlm
                rw [List.length_map, List.length_append] at h1
                exact h1
              have hcl := cmds_len a
              have SG3 := Lib.hid sg3
              have HH3 := Lib.hid hh3
              have HN3 := Lib.hid hn3
              have HZ3 := Lib.hid hz3
              have HLM := Lib.hid hlm
              have HLE : Hid (L4.length + L3.length ≤ 1048576) := Lib.hid (by have := HAL.out; omega)
              clear HE sg3 hh3 hn3 hz3 hlm HSG HKL HCC HA6
              go_wp2_with (at_builtin; refine wpList_append_cms rfl _ _ rfl w.heap.size _ L4 rfl SG3.out.row A3 c3 _ L3 rfl HH3.out HN3.out HZ3.out HLE.out ?c2 ?_)
              case c2 => exact SG3.out.one.1.size
              intro v' w8 ho hg hu
              have SG4 := Lib.hid (SG3.out.append HH3.out.ts ho hg hu)
              obtain ⟨V5, c5, rfl, hr5⟩ := SG4.out.row.rows SG4.out.ts
              rw [HLM.out] at hr5
              have HR5 := Lib.hid hr5
              have HB8 := Lib.hid SG4.out.one.1
              have HA8 := Lib.hid (HA.out.goes (lt_stands SG4.out.one.1))
              have hln : (L4 ++ L3).length = (cmds a).length := by rw [List.length_append]; exact hls
              rw [hln]
              have hql : (cmds a).length ≤ 1048576 := by have := HAL.out; omega
              have HQL := Lib.hid hql
              clear ho hg hu SG3 HH3 HN3 HZ3 HLE hr5 hls hcl hql SG4
              go_wp2_with fail
              refine (whole_calls A cap a _ HA8.out.bts HAL.out HA8.out.le).mono ?_
              rintro e w9 ⟨⟨A9, c9, L9, rfl, hL9, hrr, hrd⟩, hb9⟩
              obtain ⟨A10, c10, e10, hv⟩ := hrr.view hrd
              injection e10 with e101 e102 e103
              subst e101
              rw [hL9] at hv
              have hn9 : L9.length = (cmds a).length := by rw [← hL9, List.length_map]
              rw [hn9]
              obtain ⟨q, hq⟩ : ∃ q, q = (cmds a).length := ⟨_, rfl⟩
              rw [← hq]
              have HQ := Lib.hid hq
              have HB9 := Lib.hid (HB8.out.trans (hb9.mono HB8.out.size))
              have HR9 := Lib.hid (HR5.out.keep hb9)
              have HV9 := Lib.hid hv
              clear hL9 hrr hrd hv hn9 hq hb9 HB8 HR5 HA8 hln
              go_wp2_with fail
              refine (rows_same (n := q) HR9.out HV9.out HQ.out HQL.out (cmds_fit a)).mono ?_
              rintro e w10 ⟨rfl, hb10⟩
              have HB10 := Lib.hid (HB9.out.trans (hb10.mono HB9.out.size))
              clear hb10 HB9 HR9 HV9
              have hWW : (wrong a = false ∧ errI a = 0 ∧ errI (a.take h) = 0) ∨ (wrong a = true ∧ errI a = 7 ∧ errI (a.take h) = 0) ∨ (wrong a = true ∧ errI a = 7 ∧ errI (a.take h) = 7) := by
                have h1 := HWE.out
                have h2 : errI a = if wrong a then 7 else 0 := rfl
                cases hw : wrong a with
                | false =>
                  rw [hw] at h2
                  rcases h1 with ⟨g1, g2, g3⟩ | ⟨g1, g2, g3⟩ | ⟨g1, g2, g3⟩ | ⟨g1, g2, g3⟩
                  · exact .inl ⟨rfl, g1, g2⟩
                  · exact .inl ⟨rfl, g1, g2⟩
                  · rw [g1] at h2; simp at h2
                  · rw [g1] at h2; simp at h2
                | true =>
                  rw [hw] at h2
                  rcases h1 with ⟨g1, g2, g3⟩ | ⟨g1, g2, g3⟩ | ⟨g1, g2, g3⟩ | ⟨g1, g2, g3⟩
                  · rw [g1] at h2; simp at h2
                  · rw [g1] at h2; simp at h2
                  · exact .inr (.inl ⟨rfl, g1, g2⟩)
                  · exact .inr (.inr ⟨rfl, g1, g2⟩)
              rcases hWW with ⟨g1, g2, g3⟩ | ⟨g1, g2, g3⟩ | ⟨g1, g2, g3⟩
              all_goals
                rw [g1, g2, g3]
                clear g1 g2 g3
                go_wp2_with fail
                refine (known_calls C _).mono ?_
                rintro e w9 ⟨rfl, hk9⟩
                have HB9 := Lib.hid (HB10.out.trans (hk9.mono HB10.out.size))
                clear hk9
                go_wp2_with fail
                go_ret
                exact ⟨rfl, HB9.out⟩
  · have i1 : (1200 : Int) < (a.length : Int) + (b.length : Int) := by omega
    clear h1
    go_enter Try.func9, Try.ntmps9
    go_wp2_with fail
    refine (known_calls C _).mono ?_
    rintro e w9 ⟨rfl, hk9⟩
    have HB9 := Lib.hid (hk9)
    clear hk9
    go_wp2_with fail
    go_ret
    exact ⟨rfl, HB9.out⟩
end Go.Proofs.Ytgjedhdnnfdcgaa.Rp
