/-
  All that ended goes.
-/
import Derived.Test.YtekjohgnfplfjaaVarC
namespace Go.Proofs.Ytekjohgnfplfjaa.Va
open Go.RowKit Go.Maps

theorem sameKey_lit (x y : ByteArray) : (keyLit x).sameKey (keyLit y) = decide (x = y) := by
  unfold keyLit
  by_cases e : x = y
  · subst e; simp [Lit.sameKey]
  · rw [decide_eq_false e]
    have h : ¬ x.data = y.data := fun h => e (ba_ext (by rw [h]))
    simp [Lit.sameKey, h]

theorem wpList_next_nums {w : World} {ops : Array Oper} {rest : List Oper} {o : Oper} {a : Go.Act} {Q : Exit → Go.Act → World → Prop} (hg : o.guard = none) (it : Operand) (hop : o.op = Op.next it false)
    {b r n cnt : Nat} {D : Dt} {left : Lit → Bool} (hit : a.eval it = .pointer (some ⟨r, 0, none⟩)) (h : w.ranges Try.prog 9 ptrElem b r n D left cnt) {L : VL} {bl : ByteArray → Nat} (hr : Reads D L bl)
    (hDone : (∀ kl, left kl = false) → wpList Try.prog ops Q rest (a.put o.dst (.tuple #[.bool false])) w)
    (hMore : ∀ (z : Vr) (w' : World) (cnt' : Nat), z ∈ L → left (keyLit z.1) = true → w'.ranges Try.prog 9 ptrElem b r n D (fun kl => left kl && !kl.sameKey (keyLit z.1)) cnt' → cnt' < cnt → w.grownBy w' (some r) →
      (Instr.entry (.pointer (some ⟨r, 0, none⟩))).run Try.prog w' = .ok (.tuple #[.string z.1, .pointer (some ⟨bl z.1, 0, none⟩)]) w' → wpList Try.prog ops Q rest (a.put o.dst (.tuple #[.bool true, .string z.1, .pointer (some ⟨bl z.1, 0, none⟩)])) w') :
    wpList Try.prog ops Q (o :: rest) a w := by
  refine wpList_next_ranges w hg it hop 9 law ptrElem encStr ptr (fun key kl hk => by obtain ⟨x, hx, _⟩ := Maps.keyOf_str Try.underlying9 hk; exact ⟨x, hx⟩) (fun v y hv => by obtain ⟨c, e, _⟩ := ptrElem_inv hv; exact ⟨c, e⟩) b r n D left cnt hit h (fun _ hl => hDone hl) ?_
  intro x c kl y w2 cnt2 hkey hlk hv hat hrg hlt hg2 hs2 hen
  obtain ⟨x', ex, rfl, hle⟩ := Maps.keyOf_str Try.underlying9 hkey
  obtain rfl : x = x' := encStr_inj ex
  rw [kb_lit] at hlk hat hrg
  obtain ⟨z, hz, e⟩ := (hr.has (kb x)).1 (Maps.has_true_of_atKey hat)
  have hc : c = some (bl z.1) := by
    rw [ptrElem_mk] at hv
    have h1 : (.lit (.int .i64 (code c)) : Dt) = y.1 := congrArg Prod.fst (Option.some.inj hv)
    have h2 := hr.at_ z hz (.map [])
    rw [e, hat, ← h1, ← e] at h2
    exact code_some (by simpa using h2)
  rw [← e] at hlk hrg
  rw [kb_enc, ← e, hc] at hen ⊢
  exact hMore z w2 cnt2 hz hlk hrg hlt hg2 hen

section
variable {w w' : World} {own : List Nat} {v b room : Nat} {L : VL} {bl : ByteArray → Nat} {D : Dt}
theorem In.mapc2 (h : In w own v b room L bl D) (k : Only [b] w w') : w'.cell? ⟨v, 1, none⟩ = some (.map (some b)) := by
  rw [cell_of_row _ _ _ _ _ _ ((k.block v (h.old v h.ownV) (by simp; exact h.ne_vb)).trans h.box)]; rfl
theorem In.endc2 (h : In w own v b room L bl D) (k : Only [b] w w') {x : Vr} (hx : x ∈ L) : w'.cell? ⟨bl x.1, 1, none⟩ = some (.int .i64 (enc x.2.2)) := by
  rw [cell_of_row _ _ _ _ _ _ ((k.block _ (h.old _ (h.ownN x hx)) (by simp; exact h.ne_nb hx)).trans (h.nums x hx))]; rfl
theorem grown_of_below {w w' : World} (h : Below w.heap.size w w') : w.grownBy w' none := ⟨h.os, h.tape, h.output, h.size, fun i hi _ => h.block i hi⟩
/-- who is there, or still to come -/
def lv (L : VL) (now : Int) (left : Lit → Bool) : VL := L.filter fun x => isLive now x || left (keyLit x.1)
theorem mem_lv {L : VL} {now : Int} {left : Lit → Bool} {x : Vr} : x ∈ lv L now left ↔ x ∈ L ∧ (isLive now x = true ∨ left (keyLit x.1) = true) := by simp [lv]
theorem lv_strike {L : VL} (g : Rising L) {now : Int} {left : Lit → Bool} {z : Vr} (hz : z ∈ L) : (isLive now z = true → lv L now (fun kl => left kl && !kl.sameKey (keyLit z.1)) = lv L now left) ∧ (isLive now z = false → ∀ k, (∃ x ∈ lv L now (fun kl => left kl && !kl.sameKey (keyLit z.1)), x.1 = k) ↔ (∃ x ∈ lv L now left, x.1 = k) ∧ ¬ k = z.1) := by
  constructor
  · intro hl
    refine List.filter_congr fun x hx => ?_
    show (isLive now x || (left (keyLit x.1) && !(keyLit x.1).sameKey (keyLit z.1))) = _
    rw [sameKey_lit]
    by_cases e : x.1 = z.1
    · rw [g.eq_of_key hx hz e, hl]; rfl
    · simp [e]
  · intro hl k
    constructor
    · rintro ⟨x, hx, rfl⟩
      obtain ⟨h1, h2⟩ := mem_lv.1 hx
      rw [sameKey_lit] at h2
      have hne : ¬ x.1 = z.1 := fun e => by
        have e2 := g.eq_of_key h1 hz e
        rw [e2, hl] at h2
        simp at h2
      refine ⟨⟨x, mem_lv.2 ⟨h1, h2.imp id fun h3 => ?_⟩, rfl⟩, hne⟩
      simp [hne] at h3
      exact h3
    · rintro ⟨⟨x, hx, rfl⟩, hne⟩
      obtain ⟨h1, h2⟩ := mem_lv.1 hx
      refine ⟨x, mem_lv.2 ⟨h1, h2.imp id fun h3 => ?_⟩, rfl⟩
      rw [sameKey_lit]
      simp [hne, h3]

set_option maxRecDepth 100000 in
theorem sweep_calls (h : In w own v b room L bl D) (now : Int) :
    Calls Try.prog 29 #[.pointer (some ⟨v, 0, none⟩), .int .i64 now] w fun e w' => e = .returned (.tuple #[]) ∧ (∃ D', In w' own v b room (live L now) bl D') ∧ Only [b] w w' := by
  have c1 := h.mapc
  have hg := h.good.rise
  have H := Lib.hid h
  clear h
  go_enter Try.func29, Try.ntmps29
  go_wp2_with (at_range; refine wpList_range_own _ rfl _ 48 rfl 9 51 law Try.underlying48 _ b _ D rfl H.out.map ?_; intro w0 hrg0 hg0 hs0)
  go_frame
  clear hs0
  go_loopw [4, 5] (fun _ _ wr => ∃ left cnt D', Hid (wr.ranges Try.prog 9 ptrElem b w.heap.size L.length D' left cnt ∧ Reads D' (lv L now left) bl ∧ Only [b] w wr)) (fun _ _ wr => wr.rangeLeft b w.heap.size)
  case atStart =>
    refine ⟨_, _, D, Lib.hid ⟨hrg0, ?_, (Only.refl _ _).grown hg0 (fun k hk => by cases hk)⟩⟩
    have e : lv L now (Maps.has D) = L := by
      unfold lv
      rw [List.filter_eq_self]
      intro x hx
      rw [H.out.has_yes ⟨x, hx, rfl⟩]
      simp
    rw [e]; exact H.out.reads
  case round =>
    obtain ⟨left, cnt, D2, hR⟩ := hrel
    go_wp2_with (at_next; refine wpList_next_nums rfl _ rfl rfl hR.out.1 hR.out.2.1 ?_ ?_)
    · intro hl0
      go_wp2_with fail
      go_end0
      refine ⟨rfl, ⟨D2, ?_⟩, hR.out.2.2⟩
      have e : lv L now left = live L now := List.filter_congr fun x _ => by rw [hl0]; simp
      have hr := hR.out.2.1
      rw [e] at hr
      exact H.out.fewer List.filter_sublist hR.out.2.2 hR.out.1.owns hr
    · intro zk zn ze w2 cnt2 hz hlk hrg2 hlt hg2 hen
      obtain ⟨z, rfl, rfl, rfl⟩ : ∃ z : Vr, z.1 = zk ∧ z.2.1 = zn ∧ z.2.2 = ze := ⟨(zk, zn, ze), rfl, rfl, rfl⟩
      have hz : z ∈ lv L now left := hz
      have hzL := (mem_lv.1 hz).1
      have k2 : Only [b] w w2 := hR.out.2.2.grown hg2 (fun k hk => by cases hk; exact .inr (Nat.le_refl _))
      have c2 := H.out.endc2 k2 hzL
      have t1 := enc_live (now := now) (H.out.fits z hzL).2.2
      have hst := lv_strike hg (now := now) (left := left) hzL
      have HK := Lib.hid k2
      have HR2 := Lib.hid hrg2
      have HS := Lib.hid hst
      have HM := Lib.hid (show cnt2 < wr.rangeLeft b w.heap.size by rw [hR.out.1.left_eq]; exact hlt)
      clear k2 hrg2 hst hlt hlk hz hg2
      cases hl : isLive now z with
      | true =>
        rw [hl] at t1
        have t2 := t1.symm
        clear t1
        go_wp2_with fail
        refine (there_calls _ _ now _ c2).mono ?_
        rintro e w3 ⟨rfl, hb⟩
        have k3 : Only [b] w w3 := HK.out.also (Only.of_below [b] hb)
        have hrg3 := HR2.out.kept (grown_of_below hb) (by simp) (by simp)
        have HK3 := Lib.hid k3
        have HR3 := Lib.hid hrg3
        clear k3 hrg3
        go_wp2_with fail
        go_roundw
        case rel =>
          refine ⟨_, _, _, Lib.hid ⟨HR3.out, ?_, HK3.out⟩⟩
          rw [HS.out.1 hl]
          exact hR.out.2.1
        case measure => rw [HR3.out.left_eq]; exact HM.out
      | false =>
        rw [hl] at t1
        have t2 := t1.symm
        clear t1
        go_wp2_with fail
        refine (there_calls _ _ now _ c2).mono ?_
        rintro e w3 ⟨rfl, hb⟩
        have k3 : Only [b] w w3 := HK.out.also (Only.of_below [b] hb)
        have hrg3 := HR2.out.kept (grown_of_below hb) (by simp) (by simp)
        have c3 := H.out.mapc2 k3
        have HK3 := Lib.hid k3
        have HR3 := Lib.hid hrg3
        clear k3 hrg3
        go_wp2_with (at_delete; refine wpList_delete_ranges _ rfl _ _ 48 9 rfl 51 law Try.underlying48 _ b _ _ _ _ _ rfl HR3.out _ _ rfl (key_of (H.out.fits z hzL).1) ?_; intro w4 cnt4 hrg4 hle hturn; go_frame)
        rw [Maps.strike_twice] at hrg4
        have k4 : Only [b] w w4 := HK3.out.also (turned_only hturn)
        go_roundw
        case rel =>
          refine ⟨_, _, _, Lib.hid ⟨hrg4, hR.out.2.1.del z.1 (HS.out.2 hl), k4⟩⟩
        case measure =>
          rw [hrg4.left_eq]
          have := HM.out
          omega
end
end Go.Proofs.Ytekjohgnfplfjaa.Va
