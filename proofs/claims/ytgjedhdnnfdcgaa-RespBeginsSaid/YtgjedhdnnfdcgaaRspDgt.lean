/-
  The parser's functions that gather bytes: one behind the others, or what was gathered made a text.
-/
import Derived.Test.YtgjedhdnnfdcgaaRspPar
import Derived.Maps.AppendAt
namespace Go.Proofs.Ytgjedhdnnfdcgaa.Rp
open Go.RowKit
open Dg (dec txt)

theorem bcells_length (l : Bytes) : (bcells l).length = l.length := by simp [bcells]
theorem wpList_append_byte {w : World} {ops : Array Oper} {rest : List Oper} {o : Oper} {a : Act} {Q : Exit → Act → World → Prop} (hgd : o.guard = none) (s x : Operand)
    (ho : o.op = .call { callee := .builtin .append, args := #[s, x], argTypes := #[23, 23] })
    (v : Value) (l : Bytes) (hs : a.eval s = v) (hown : BRow w 0 v l) (g : Nat) (c : UInt8) (hx : a.eval x = .slice (some ⟨g, 0, none⟩) 1 1)
    (hg : w.heap[g]? = some (.cells #[.int .u8 (c.toNat : Int)] 5 (0, 0))) (hn : l.length ≤ 1048576)
    (h : ∀ v' w', BRow w' 0 v' (l ++ [c]) → w.grownBy w' v.ownBlock → (v'.ownBlock = v.ownBlock ∨ v'.ownBlock = some w.heap.size) → wpList Try.prog ops Q rest (a.put o.dst v') w') : wpList Try.prog ops Q (o :: rest) a w := by
  obtain ⟨i0, hi, hz0, hz1, hz2⟩ := byte_parts
  refine wpList_append_own_at w hgd s x 23 ho 0 5 i0 _ 1 1 Try.underlying23 hi hz0 hz1 hz2 rfl (by decide) v l.length (bcells l) hs hown ⟨g, 0, none⟩ 1 1 [.int .u8 (c.toNat : Int)] hx rfl ?_ ?_ (by unfold maxLen; omega) (by omega) (Nat.zero_le _) (fun v' w' h2 h3 _ h5 => h v' w' ?_ h3 h5)
  · intro j u hj
    have : ((⟨g, 0, none⟩ : Addr).add j) = ⟨g, j, none⟩ := by unfold Addr.add; split <;> simp_all
    rw [this, cell_of_row _ _ _ _ _ _ hg]
    simpa using hj
  · intro u hu; simp at hu; subst hu; rfl
  · unfold BRow
    rw [List.length_append, bcells_append]
    exact h2
theorem wpList_append_arg {w : World} {ops : Array Oper} {rest : List Oper} {o : Oper} {a : Act} {Q : Exit → Act → World → Prop} (hgd : o.guard = none) (s x : Operand)
    (ho : o.op = .call { callee := .builtin .append, args := #[s, x], argTypes := #[36, 36] })
    (v : Value) (l : List Bytes) (hs : a.eval s = v) (hown : SRow w 0 v (l.map bat)) (g : Nat) (c : Bytes) (hx : a.eval x = .slice (some ⟨g, 0, none⟩) 1 1)
    (hg : w.heap[g]? = some (.cells #[.string (bat c)] 9 (0, 0))) (hn : l.length ≤ 1048576)
    (h : ∀ v' w', SRow w' 0 v' ((l ++ [c]).map bat) → w.grownBy w' v.ownBlock → (v'.ownBlock = v.ownBlock ∨ v'.ownBlock = some w.heap.size) → wpList Try.prog ops Q rest (a.put o.dst v') w') : wpList Try.prog ops Q (o :: rest) a w := by
  obtain ⟨i0, hi, hz0, hz1, hz2⟩ := str_parts
  unfold SRow at hown
  refine wpList_append_own_at w hgd s x 36 ho 0 9 i0 _ 1 16 Try.underlying36 hi hz0 hz1 hz2 rfl (by decide) v (l.map bat).length _ hs hown ⟨g, 0, none⟩ 1 1 [.string (bat c)] hx rfl ?_ ?_ (by simp; unfold maxLen; omega) (by simp; omega) (Nat.zero_le _) (fun v' w' h2 h3 _ h5 => h v' w' ?_ h3 h5)
  · intro j u hj
    have : ((⟨g, 0, none⟩ : Addr).add j) = ⟨g, j, none⟩ := by unfold Addr.add; split <;> simp_all
    rw [this, cell_of_row _ _ _ _ _ _ hg]
    simpa using hj
  · intro u hu; simp at hu; subst hu; rfl
  · unfold SRow
    rw [List.map_append, List.length_append, List.map_append]
    exact h2

section
variable {w w' : World} {pb : Nat} {nx vt va vt' va' : Value} {tk num cnt : Int} {tx : Bytes} {ar : List Bytes}
theorem PM.push (h : PM w pb nx tk vt tx num cnt va ar) {arr : Obj} {w2 : World} {l : Bytes} (hr : BRow w2 0 vt' l) (hg : (w.alloc arr).grownBy w2 vt.ownBlock) (hob : vt'.ownBlock = vt.ownBlock ∨ vt'.ownBlock = some (w.alloc arr).heap.size) :
    PM (w2.setCell ⟨pb, 2, none⟩ vt') pb nx tk vt' l num cnt va ar ∧ Kept (pblk pb vt va) w (pblk pb vt' va) (w2.setCell ⟨pb, 2, none⟩ vt') := by
  have ha := h.alloc arr
  have hb2 : Box w2 pb 62 (pcs nx tk vt num cnt va) := (hg.block pb ha.box.lt (fun e => ha.ntp e.symm)).trans ha.box
  have har : SRow w2 0 va (ar.map bat) := World.ownsRow.kept ha.arg hg (own_ne ha.arg ha.txt (by decide))
  have hsz : w.heap.size ≤ w2.heap.size := Nat.le_trans (by simp) hg.size
  have ho : Only (pblk pb vt va) w w2 := ((Only.refl _ w).alloc arr).grown hg (fun k e => .inl (mem_pblk.2 (.inr (.inl e))))
  have hs : Only [pb] w2 (w2.setCell ⟨pb, 2, none⟩ vt') := (Only.refl [pb] w2).set (p := ⟨pb, 2, none⟩) (by simp) _
  refine ⟨⟨?_, row_only hr hs (fun y hy e => ?_), row_only har hs (fun y hy e => ?_)⟩, ho.trans hs (fun y hy => .inl ?_), fun y hy => ?_⟩
  · exact hb2.set 2 vt'
  · rw [List.mem_singleton] at hy; subst hy
    exact row_box hr hb2 (by decide) e
  · rw [List.mem_singleton] at hy; subst hy
    exact row_box har hb2 (by decide) e
  · rw [List.mem_singleton] at hy; subst hy
    exact mem_pblk.2 (.inl rfl)
  · rcases mem_pblk.1 hy with rfl | e | e
    · exact .inl (mem_pblk.2 (.inl rfl))
    · rcases hob with e2 | e2
      · exact .inl (mem_pblk.2 (.inr (.inl (e2 ▸ e))))
      · rw [e2] at e
        injection e with e
        exact .inr (by rw [← e]; simp)
    · exact .inl (mem_pblk.2 (.inr (.inr e)))
theorem PM.pushArg (h : PM w pb nx tk vt tx num cnt va ar) {arr : Obj} {w2 : World} {l : List Bytes} (hr : SRow w2 0 va' (l.map bat)) (hg : (w.alloc arr).grownBy w2 va.ownBlock) (hob : va'.ownBlock = va.ownBlock ∨ va'.ownBlock = some (w.alloc arr).heap.size) :
    PM (w2.setCell ⟨pb, 5, none⟩ va') pb nx tk vt tx num cnt va' l ∧ Kept (pblk pb vt va) w (pblk pb vt va') (w2.setCell ⟨pb, 5, none⟩ va') := by
  have ha := h.alloc arr
  have hb2 : Box w2 pb 62 (pcs nx tk vt num cnt va) := (hg.block pb ha.box.lt (fun e => ha.nap e.symm)).trans ha.box
  have htx : BRow w2 0 vt tx := World.ownsRow.kept ha.txt hg (own_ne ha.txt ha.arg (by decide))
  have hsz : w.heap.size ≤ w2.heap.size := Nat.le_trans (by simp) hg.size
  have ho : Only (pblk pb vt va) w w2 := ((Only.refl _ w).alloc arr).grown hg (fun k e => .inl (mem_pblk.2 (.inr (.inr e))))
  have hs : Only [pb] w2 (w2.setCell ⟨pb, 5, none⟩ va') := (Only.refl [pb] w2).set (p := ⟨pb, 5, none⟩) (by simp) _
  refine ⟨⟨?_, row_only htx hs (fun y hy e => ?_), row_only hr hs (fun y hy e => ?_)⟩, ho.trans hs (fun y hy => .inl ?_), fun y hy => ?_⟩
  · exact hb2.set 5 va'
  · rw [List.mem_singleton] at hy; subst hy
    exact row_box htx hb2 (by decide) e
  · rw [List.mem_singleton] at hy; subst hy
    exact row_box hr hb2 (by decide) e
  · rw [List.mem_singleton] at hy; subst hy
    exact mem_pblk.2 (.inl rfl)
  · rcases mem_pblk.1 hy with rfl | e | e
    · exact .inl (mem_pblk.2 (.inl rfl))
    · exact .inl (mem_pblk.2 (.inr (.inl e)))
    · rcases hob with e2 | e2
      · exact .inl (mem_pblk.2 (.inr (.inr (e2 ▸ e))))
      · rw [e2] at e
        injection e with e
        exact .inr (by rw [← e]; simp)
/-- the gathered bytes are dropped, their memory is kept -/
theorem PM.drop (h : PM w pb nx tk vt tx num cnt va ar) {A : Option Addr} {n cap : Nat} (hv : vt = .slice A n cap) :
    PM (w.setCell ⟨pb, 2, none⟩ (.slice A 0 cap)) pb nx tk (.slice A 0 cap) [] num cnt va ar ∧ Kept (pblk pb vt va) w (pblk pb (.slice A 0 cap) va) (w.setCell ⟨pb, 2, none⟩ (.slice A 0 cap)) := by
  have hs : Only [pb] w (w.setCell ⟨pb, 2, none⟩ (.slice A 0 cap)) := (Only.refl [pb] w).set (p := ⟨pb, 2, none⟩) (by simp) _
  have hr : BRow w 0 (.slice A 0 cap) [] := by
    rcases h.txt.2 with ⟨e, _⟩ | ⟨g, cap', cur, e, hB, hg, h1, h2, h3, h4⟩
    · rw [hv] at e
      injection e with e1 e2 e3
      subst e1 e3
      exact BRow.nil w 0
    · rw [hv] at e
      injection e with e1 e2 e3
      subst e1 e3
      exact ⟨rfl, .inr ⟨g, _, cur, rfl, hB, hg, Nat.zero_le _, h2, h3, by simp [bcells]⟩⟩
  have hob : (Value.slice A 0 cap).ownBlock = vt.ownBlock := by rw [hv]; cases A <;> rfl
  refine ⟨⟨h.box.set 2 _, row_only hr hs (fun y hy e => ?_), row_only h.arg hs (fun y hy e => ?_)⟩, hs.mono (fun y hy => .inl ?_), fun y hy => .inl ?_⟩
  · rw [List.mem_singleton] at hy; subst hy
    exact row_box hr h.box (by decide) e
  · rw [List.mem_singleton] at hy; subst hy
    exact h.nap e
  · rw [List.mem_singleton] at hy; subst hy
    exact mem_pblk.2 (.inl rfl)
  · unfold pblk at hy ⊢
    rw [hob] at hy
    exact hy
theorem BRow.form2 {B : Nat} {v : Value} {l : Bytes} (h : BRow w B v l) : (v = .slice none 0 0 ∧ l = []) ∨ ∃ g cap, v = .slice (some ⟨g, 0, none⟩) l.length cap := by
  rcases h.2 with ⟨rfl, h0⟩ | ⟨g, cap, cur, rfl, _⟩
  · exact .inl ⟨rfl, List.eq_nil_of_length_eq_zero h0⟩
  · exact .inr ⟨g, cap, rfl⟩
theorem conv_row {B g cap : Nat} {l : Bytes} (h : BRow w B (.slice (some ⟨g, 0, none⟩) l.length cap) l) : (convert 23 9 (.slice (some ⟨g, 0, none⟩) l.length cap)).run Try.prog w = .ok (.string (bat l)) w := by
  refine run_convert_bytes_back w 23 9 5 ⟨g, 0, none⟩ cap l Try.underlying23 Try.underlying5 Try.underlying9 fun j hj => ?_
  have := World.ownsRow.cells h (g := g) rfl j (Value.int .u8 (l[j].toNat : Int)) (by simp [bcells, hj])
  exact this
theorem conv_none (w : World) : (convert 23 9 (.slice none 0 0)).run Try.prog w = .ok (.string (bat [])) w := by kernel_rfl

set_option maxHeartbeats 1000000 in
theorem digit_end (h : PM w pb nx tk vt tx num cnt va ar) (hne : tx ≠ []) (lo hi : Int) (f1 f2 : Value) :
    Calls Try.prog 46 #[.pointer (some ⟨pb, 0, none⟩), .int .u8 13, .int .i64 lo, .int .i64 hi, f1, f2] w fun e w' =>
      ∃ vt', e = .returned f2 ∧ PM w' pb nx tk vt' [] num cnt va ar ∧ Kept (pblk pb vt va) w (pblk pb vt' va) w' := by
  rcases h.txt.form2 with ⟨_, e⟩ | ⟨g, cap, rfl⟩
  · exact absurd e hne
  have c2 := h.box.cell 2
  have f2' := h.box.free 2
  have HD := Lib.hid (h.drop rfl)
  simp only [pcs, List.getElem?_toArray, List.getElem?_cons_zero, List.getElem?_cons_succ] at c2
  have hpos : 0 < tx.length := List.length_pos_iff.2 hne
  have t1 : decide ((0 : Int) < (tx.length : Int)) = true := decide_eq_true (by omega)
  clear h hne
  go_enter Try.func46, Try.ntmps46
  go_wp2_with fail
  go_ret
  exact ⟨_, rfl, HD.out⟩
theorem BRow.form3 {B : Nat} {v : Value} {l : Bytes} (h : BRow w B v l) (hne : l ≠ []) : ∃ g cap, v = .slice (some ⟨g, 0, none⟩) l.length cap := by
  rcases h.form2 with ⟨_, e⟩ | h
  · exact absurd e hne
  · exact h
theorem PM.pushed (h : PM w pb nx tk vt tx num cnt va ar) {arr : Obj} {w2 : World} (hg : (w.alloc arr).grownBy w2 vt.ownBlock) : w2.cell? ⟨pb, 2, none⟩ = some vt ∧ w2.frozen? ⟨pb, 2, none⟩ = false := by
  have ha := h.alloc arr
  have hb2 : Box w2 pb 62 (pcs nx tk vt num cnt va) := (hg.block pb ha.box.lt (fun e => ha.ntp e.symm)).trans ha.box
  exact ⟨hb2.cell 2, hb2.free 2⟩
theorem PM.pushedArg (h : PM w pb nx tk vt tx num cnt va ar) {arr : Obj} {w2 : World} (hg : (w.alloc arr).grownBy w2 va.ownBlock) : w2.cell? ⟨pb, 5, none⟩ = some va ∧ w2.frozen? ⟨pb, 5, none⟩ = false := by
  have ha := h.alloc arr
  have hb2 : Box w2 pb 62 (pcs nx tk vt num cnt va) := (hg.block pb ha.box.lt (fun e => ha.nap e.symm)).trans ha.box
  exact ⟨hb2.cell 5, hb2.free 5⟩

set_option maxHeartbeats 2000000 in
theorem digit_one (h : PM w pb nx tk vt tx num cnt va ar) (c : UInt8) (A : Option Addr) (cap : Nat) (hv : vt = .slice A 0 cap) (lo hi : Int) (f1 f2 : Value) (hl : tx.length ≤ 1048576) {l : Bytes} (hle : tx ++ [c] = l) :
    Calls Try.prog 46 #[.pointer (some ⟨pb, 0, none⟩), .int .u8 (c.toNat : Int), .int .i64 lo, .int .i64 hi, f1, f2] w fun e w' =>
      ∃ vt', Kept (pblk pb vt va) w (pblk pb vt' va) w' ∧ ((Dg.upto? l lo hi = none ∧ e = .returned .nilFunc ∧ PM w' pb nx tk vt' l num cnt va ar) ∨
        ∃ n, Dg.upto? l lo hi = some n ∧ e = .returned f1 ∧ PM w' pb nx tk vt' l n cnt va ar) := by
  have c2 := h.box.cell 2
  have f2' := h.box.free 2
  simp only [pcs, List.getElem?_toArray, List.getElem?_cons_zero, List.getElem?_cons_succ] at c2
  have hne : l ≠ [] := by rw [← hle]; simp
  subst hv
  have H := Lib.hid h
  clear h
  go_enter Try.func46, Try.ntmps46
  go_wp2_with (at_builtin; refine wpList_append_byte rfl _ _ rfl _ _ rfl (H.out.txt.alloc _) w.heap.size c rfl (heap_alloc_new _ _) hl ?_; intro v2 w2 hr2 hg2 hob2; rw [hle] at hr2; obtain ⟨PP, KK⟩ := H.out.push hr2 hg2 hob2; obtain ⟨g2', g2⟩ := H.out.pushed hg2; obtain ⟨g, cap2, rfl⟩ := hr2.form3 hne; have HC := conv_row PP.txt; have HPP := Lib.hid PP; have HKK := Lib.hid KK; clear PP KK hr2 hg2 hob2)
  refine (Dg.upto_calls _ _ _ _).mono ?_
  rintro e w3 ⟨rfl, hb3⟩
  rw [show (bat l).data.toList = l from rfl]
  have hk3 := HKK.out.trans (Kept.of_below hb3)
  cases hu : Dg.upto? l lo hi with
  | none =>
    have P3 := HPP.out.keep hb3
    unfold Dg.told
    rw [show (none : Option Int).isSome = false from rfl]
    have HP3 := Lib.hid P3
    have HK3 := Lib.hid hk3
    have HU := Lib.hid hu
    clear hu HPP HKK P3 hk3 HC hb3
    go_wp2_with fail
    go_ret
    exact ⟨_, HK3.out, .inl ⟨HU.out, rfl, HP3.out⟩⟩
  | some n =>
    have P3 := HPP.out.keep hb3
    have c3 := P3.box.cell 3
    have f3 := P3.box.free 3
    simp only [pcs, List.getElem?_toArray, List.getElem?_cons_zero, List.getElem?_cons_succ] at c3
    obtain ⟨P4, o4⟩ := P3.put 3 (.int .i64 n) (num' := n) rfl
    have HP3 := Lib.hid P4
    have HK3 := Lib.hid (hk3.trans ⟨o4.mono (fun y hy => .inl (by rw [List.mem_singleton] at hy; subst hy; exact mem_pblk.2 (.inl rfl))), fun y hy => .inl hy⟩)
    unfold Dg.told
    rw [show (some n : Option Int).isSome = true from rfl, show (some n : Option Int).getD 0 = n from rfl]
    have HU := Lib.hid hu
    clear hu HPP HKK P3 hk3 HC hb3 P4 o4
    go_wp2_with fail
    go_ret
    exact ⟨_, HK3.out, .inr ⟨n, HU.out, rfl, HP3.out⟩⟩

set_option maxHeartbeats 2000000 in
theorem digit_two (h : PM w pb nx tk vt tx num cnt va ar) (c : UInt8) (h13 : c ≠ 13) (htx : tx ≠ []) (lo hi : Int) (f1 f2 : Value) (hl : tx.length ≤ 1048576) {l : Bytes} (hle : tx ++ [c] = l) :
    Calls Try.prog 46 #[.pointer (some ⟨pb, 0, none⟩), .int .u8 (c.toNat : Int), .int .i64 lo, .int .i64 hi, f1, f2] w fun e w' =>
      ∃ vt', Kept (pblk pb vt va) w (pblk pb vt' va) w' ∧ ((Dg.upto? l lo hi = none ∧ e = .returned .nilFunc ∧ PM w' pb nx tk vt' l num cnt va ar) ∨
        ∃ n, Dg.upto? l lo hi = some n ∧ e = .returned f1 ∧ PM w' pb nx tk vt' l n cnt va ar) := by
  have c2 := h.box.cell 2
  have f2' := h.box.free 2
  simp only [pcs, List.getElem?_toArray, List.getElem?_cons_zero, List.getElem?_cons_succ] at c2
  have hne : l ≠ [] := by rw [← hle]; simp
  obtain ⟨g0, cap0, rfl⟩ := h.txt.form3 htx
  have hpos : 0 < tx.length := List.length_pos_iff.2 htx
  have t1 : decide ((0 : Int) < (tx.length : Int)) = true := decide_eq_true (by omega)
  have t2 : ((c.toNat : Int) == 13) = false := by
    rw [beq_eq_false_iff_ne]
    intro e
    have h3 : c.toNat = 13 := by omega
    exact h13 (UInt8.toNat_inj.1 h3)
  have H := Lib.hid h
  clear h
  go_enter Try.func46, Try.ntmps46
  go_wp2_with (at_builtin; refine wpList_append_byte rfl _ _ rfl _ _ rfl (H.out.txt.alloc _) w.heap.size c rfl (heap_alloc_new _ _) hl ?_; intro v2 w2 hr2 hg2 hob2; rw [hle] at hr2; obtain ⟨PP, KK⟩ := H.out.push hr2 hg2 hob2; obtain ⟨g2', g2⟩ := H.out.pushed hg2; obtain ⟨g, cap2, rfl⟩ := hr2.form3 hne; have HC := conv_row PP.txt; have HPP := Lib.hid PP; have HKK := Lib.hid KK; clear PP KK hr2 hg2 hob2)
  refine (Dg.upto_calls _ _ _ _).mono ?_
  rintro e w3 ⟨rfl, hb3⟩
  rw [show (bat l).data.toList = l from rfl]
  have hk3 := HKK.out.trans (Kept.of_below hb3)
  cases hu : Dg.upto? l lo hi with
  | none =>
    have P3 := HPP.out.keep hb3
    unfold Dg.told
    rw [show (none : Option Int).isSome = false from rfl]
    have HP3 := Lib.hid P3
    have HK3 := Lib.hid hk3
    have HU := Lib.hid hu
    clear hu HPP HKK P3 hk3 HC hb3
    go_wp2_with fail
    go_ret
    exact ⟨_, HK3.out, .inl ⟨HU.out, rfl, HP3.out⟩⟩
  | some n =>
    have P3 := HPP.out.keep hb3
    have c3 := P3.box.cell 3
    have f3 := P3.box.free 3
    simp only [pcs, List.getElem?_toArray, List.getElem?_cons_zero, List.getElem?_cons_succ] at c3
    obtain ⟨P4, o4⟩ := P3.put 3 (.int .i64 n) (num' := n) rfl
    have HP3 := Lib.hid P4
    have HK3 := Lib.hid (hk3.trans ⟨o4.mono (fun y hy => .inl (by rw [List.mem_singleton] at hy; subst hy; exact mem_pblk.2 (.inl rfl))), fun y hy => .inl hy⟩)
    unfold Dg.told
    rw [show (some n : Option Int).isSome = true from rfl, show (some n : Option Int).getD 0 = n from rfl]
    have HU := Lib.hid hu
    clear hu HPP HKK P3 hk3 HC hb3 P4 o4
    go_wp2_with fail
    go_ret
    exact ⟨_, HK3.out, .inr ⟨n, HU.out, rfl, HP3.out⟩⟩

theorem digit_more (h : PM w pb nx tk vt tx num cnt va ar) (c : UInt8) (hc : tx = [] ∨ c ≠ 13) (lo hi : Int) (f1 f2 : Value) (hl : tx.length ≤ 1048576) {l : Bytes} (hle : tx ++ [c] = l) :
    Calls Try.prog 46 #[.pointer (some ⟨pb, 0, none⟩), .int .u8 (c.toNat : Int), .int .i64 lo, .int .i64 hi, f1, f2] w fun e w' =>
      ∃ vt', Kept (pblk pb vt va) w (pblk pb vt' va) w' ∧ ((Dg.upto? l lo hi = none ∧ e = .returned .nilFunc ∧ PM w' pb nx tk vt' l num cnt va ar) ∨
        ∃ n, Dg.upto? l lo hi = some n ∧ e = .returned f1 ∧ PM w' pb nx tk vt' l n cnt va ar) := by
  by_cases htx : tx = []
  · subst htx
    obtain ⟨A, cap, hv, _⟩ := h.txt.view
    exact digit_one h c A cap hv lo hi f1 f2 hl hle
  · exact digit_two h c (hc.resolve_left htx) htx lo hi f1 f2 hl hle
end
end Go.Proofs.Ytgjedhdnnfdcgaa.Rp
