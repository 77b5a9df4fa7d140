/-
  What is found; a number told, how long it lasts, given an END, taken away.
-/
import Derived.Test.YtekjohgnfplfjaaVarA
namespace Go.Proofs.Ytekjohgnfplfjaa.Va
open Go.RowKit Go.Maps

theorem In.has_yes {w : World} {own : List Nat} {v b room : Nat} {L : VL} {bl : ByteArray → Nat} {D : Dt} (h : In w own v b room L bl D) {key : ByteArray} (hx : ∃ x ∈ L, x.1 = key) : Maps.has D (keyLit key) = true := (h.reads.has key).2 hx
theorem In.has_no {w : World} {own : List Nat} {v b room : Nat} {L : VL} {bl : ByteArray → Nat} {D : Dt} (h : In w own v b room L bl D) {key : ByteArray} (hx : ¬ ∃ x ∈ L, x.1 = key) : Maps.has D (keyLit key) = false := by
  cases e : Maps.has D (keyLit key) with
  | false => rfl
  | true => exact absurd ((h.reads.has key).1 e) hx

theorem wpList_look_some {w : World} {ops : Array Oper} {rest : List Oper} {o : Oper} {a : Go.Act} {Q : Exit → Go.Act → World → Prop} (hg : o.guard = none) (m x : Operand) (hop : o.op = Op.lookup 48 m x true)
    {own : List Nat} {v b room : Nat} {L : VL} {bl : ByteArray → Nat} {D : Dt} (h : In w own v b room L bl D) {y : Vr} (hy : y ∈ L) (hm : a.eval m = .map (some b)) (hx : a.eval x = .string y.1)
    (hK : wpList Try.prog ops Q rest (a.put o.dst (.tuple #[.pointer (some ⟨bl y.1, 0, none⟩), .bool true])) w) : wpList Try.prog ops Q (o :: rest) a w := by
  have hk := (h.fits y hy).1
  refine wpList_lookup_own_ok w hg m x _ hop 9 51 law Try.underlying48 ptrElem (Try.zeroValue51 w) _ _ (ptrElem_mk none) b _ D hm h.map _ (keyLit y.1) hx (key_of hk) (fun v2 ps hv => ?_)
  rw [h.has_yes ⟨y, hy, rfl⟩]
  obtain ⟨c, rfl, e⟩ := ptrElem_inv hv
  rw [h.reads.at_ y hy] at e
  have e2 : code c = (bl y.1 : Nat) := by simpa using (congrArg Prod.fst e).symm
  rw [code_some e2]
  exact hK
theorem wpList_look_none {w : World} {ops : Array Oper} {rest : List Oper} {o : Oper} {a : Go.Act} {Q : Exit → Go.Act → World → Prop} (hg : o.guard = none) (m x : Operand) (hop : o.op = Op.lookup 48 m x true)
    {own : List Nat} {v b room : Nat} {L : VL} {bl : ByteArray → Nat} {D : Dt} (h : In w own v b room L bl D) {key : ByteArray} (hk : key.size ≤ maxLen) (hy : ¬ ∃ x ∈ L, x.1 = key) (hm : a.eval m = .map (some b)) (hx : a.eval x = .string key)
    (hK : wpList Try.prog ops Q rest (a.put o.dst (.tuple #[.pointer none, .bool false])) w) : wpList Try.prog ops Q (o :: rest) a w := by
  refine wpList_lookup_own_ok w hg m x _ hop 9 51 law Try.underlying48 ptrElem (Try.zeroValue51 w) _ _ (ptrElem_mk none) b _ D hm h.map _ (keyLit key) hx (key_of hk) (fun v2 ps hv => ?_)
  rw [h.has_no hy]
  obtain ⟨c, rfl, e⟩ := ptrElem_inv hv
  rw [Maps.atKey_of_not_has (h.has_no hy)] at e
  have e2 : code c = code none := by simpa using (congrArg Prod.fst e).symm
  cases c with
  | none => exact hK
  | some p => simp only [code] at e2; omega

section
variable {w : World} {own : List Nat} {v b room : Nat} {L : VL} {bl : ByteArray → Nat} {D : Dt}
theorem find_some (h : In w own v b room L bl D) {x : Vr} (hx : x ∈ L) {now : Int} (hl : isLive now x = true) :
    Calls Try.prog 20 #[.pointer (some ⟨v, 0, none⟩), .string x.1, .int .i64 now] w fun r w' => r = .returned (.pointer (some ⟨bl x.1, 0, none⟩)) ∧ Below w.heap.size w w' := by
  have c1 := h.mapc
  have c2 := h.endc hx
  have t1 : decide (clamp now < enc x.2.2) = true := by rw [← enc_live (h.fits x hx).2.2]; exact hl
  have H := Lib.hid h
  have HX := Lib.hid hx
  clear h hx hl
  go_enter Try.func20, Try.ntmps20
  go_wp2_with fail
  refine (made_calls v b _ c1).mono ?_
  rintro e w1 ⟨rfl, rfl⟩
  go_wp2_with (at_lookup; refine wpList_look_some rfl _ _ rfl H.out HX.out rfl rfl ?_)
  refine (there_calls _ _ now _ c2).mono ?_
  rintro e w2 ⟨rfl, hb⟩
  go_wp2_with fail
  go_ret
  exact ⟨rfl, hb⟩
theorem find_none (h : In w own v b room L bl D) {key : ByteArray} (hk : key.size ≤ maxLen) {now : Int} (hl : has L key now = false) :
    Calls Try.prog 20 #[.pointer (some ⟨v, 0, none⟩), .string key, .int .i64 now] w fun r w' => r = .returned (.pointer none) ∧ Below w.heap.size w w' := by
  have c1 := h.mapc
  by_cases hx : ∃ x ∈ L, x.1 = key
  · obtain ⟨x, hx, rfl⟩ := hx
    have c2 := h.endc hx
    have t1 : decide (clamp now < enc x.2.2) = false := by
      rw [← enc_live (h.fits x hx).2.2]
      cases e : isLive now x with
      | false => rfl
      | true =>
        have : has L x.1 now = true := has_iff.2 ⟨x, hx, e, rfl⟩
        rw [hl] at this
        cases this
    have H := Lib.hid h
    have HX := Lib.hid hx
    clear h hx hl hk
    go_enter Try.func20, Try.ntmps20
    go_wp2_with fail
    refine (made_calls v b _ c1).mono ?_
    rintro e w1 ⟨rfl, rfl⟩
    go_wp2_with (at_lookup; refine wpList_look_some rfl _ _ rfl H.out HX.out rfl rfl ?_)
    refine (there_calls _ _ now _ c2).mono ?_
    rintro e w2 ⟨rfl, hb⟩
    go_wp2_with fail
    go_ret
    exact ⟨rfl, hb⟩
  · have H := Lib.hid h
    have HX := Lib.hid hx
    have HK := Lib.hid hk
    clear h hx hl hk
    go_enter Try.func20, Try.ntmps20
    go_wp2_with fail
    refine (made_calls v b _ c1).mono ?_
    rintro e w1 ⟨rfl, rfl⟩
    go_wp2_with (at_lookup; refine wpList_look_none rfl _ _ rfl H.out HK.out HX.out rfl rfl ?_)
    go_ret
    exact ⟨rfl, Below.refl _ _⟩
end
end Go.Proofs.Ytekjohgnfplfjaa.Va
