/-
  How many are there.
-/
import Derived.Test.YtekjohgnfplfjaaVarF
namespace Go.Proofs.Ytekjohgnfplfjaa.Va
open Go.RowKit Go.Maps

/-- how many that are there have come -/
def dn (L : VL) (now : Int) (left : Lit → Bool) : Nat := (L.filter fun x => isLive now x && !left (keyLit x.1)).length
theorem filter_one_more {α : Type} {p q : α → Bool} {z : α} : ∀ {l : List α}, l.Nodup → z ∈ l → p z = false → q z = true → (∀ y ∈ l, y ≠ z → q y = p y) → (l.filter q).length = (l.filter p).length + 1
  | [], _, h, _, _, _ => by cases h
  | y :: r, hn, hz, hp, hq, hs => by
    have hn2 := List.nodup_cons.1 hn
    rcases List.mem_cons.1 hz with rfl | hz
    · rw [List.filter_cons_of_pos hq, List.filter_cons_of_neg (by simp [hp])]
      have : r.filter q = r.filter p := List.filter_congr fun x hx => hs x (List.mem_cons_of_mem _ hx) (fun e => hn2.1 (e ▸ hx))
      rw [this, List.length_cons]
    · have hne : y ≠ z := fun e => hn2.1 (e ▸ hz)
      have ih := filter_one_more hn2.2 hz hp hq (fun x hx hx2 => hs x (List.mem_cons_of_mem _ hx) hx2)
      have e := hs y (by simp) hne
      by_cases h : p y = true
      · rw [List.filter_cons_of_pos (by rw [e]; exact h), List.filter_cons_of_pos h, List.length_cons, List.length_cons, ih]
      · rw [List.filter_cons_of_neg (by rw [e]; exact h), List.filter_cons_of_neg h, ih]
theorem Rising.nodup2 {L : VL} (h : Rising L) : L.Nodup := h.imp fun {x y} hl e => by rw [e, lt_irrefl] at hl; cases hl
theorem dn_live {L : VL} (g : Rising L) {now : Int} {left : Lit → Bool} {z : Vr} (hz : z ∈ L) (hl : isLive now z = true) (hk : left (keyLit z.1) = true) : dn L now (fun kl => left kl && !kl.sameKey (keyLit z.1)) = dn L now left + 1 := by
  refine filter_one_more g.nodup2 hz (by simp [hk]) ?_ fun y hy hne => ?_
  · show (isLive now z && !(left (keyLit z.1) && !(keyLit z.1).sameKey (keyLit z.1))) = true
    rw [sameKey_lit, hl]
    simp
  · show (isLive now y && !(left (keyLit y.1) && !(keyLit y.1).sameKey (keyLit z.1))) = _
    rw [sameKey_lit]
    have : ¬ y.1 = z.1 := fun e => hne (g.eq_of_key hy hz e)
    simp [this]
theorem dn_dead {L : VL} (g : Rising L) {now : Int} {left : Lit → Bool} {z : Vr} (hz : z ∈ L) (hl : isLive now z = false) : dn L now (fun kl => left kl && !kl.sameKey (keyLit z.1)) = dn L now left := by
  unfold dn
  congr 1
  refine List.filter_congr fun y hy => ?_
  show (isLive now y && !(left (keyLit y.1) && !(keyLit y.1).sameKey (keyLit z.1))) = _
  rw [sameKey_lit]
  by_cases e : y.1 = z.1
  · rw [g.eq_of_key hy hz e, hl]; rfl
  · simp [e]
theorem dn_end {L : VL} {now : Int} {left : Lit → Bool} (h : ∀ kl, left kl = false) : dn L now left = (live L now).length := by
  unfold dn live
  congr 1
  exact List.filter_congr fun x _ => by rw [h]; simp
theorem dn_le {L : VL} {now : Int} {left : Lit → Bool} : dn L now left ≤ L.length := List.length_filter_le _ _

section
variable {w w' : World} {own : List Nat} {v b room : Nat} {L : VL} {bl : ByteArray → Nat} {D : Dt}
set_option maxRecDepth 100000 in
theorem Len_calls (h : In w own v b room L bl D) (now : Int) :
    Calls Try.prog 12 #[.pointer (some ⟨v, 0, none⟩), .int .i64 now] w fun e w' => e = .returned (.int .i64 ((live L now).length : Nat)) ∧ Below w.heap.size w w' := by
  have c1 := h.mapc
  have hg := h.good.rise
  have hlen : L.length ≤ 10000 := Nat.le_trans h.good.len h.good.most
  have H := Lib.hid h
  clear h
  go_enter Try.func12, Try.ntmps12
  go_wp2_with fail
  refine (made_calls v b _ c1).mono ?_
  rintro e w1 ⟨rfl, rfl⟩
  go_wp2_with (at_range; refine wpList_range_own _ rfl _ 48 rfl 9 51 law Try.underlying48 _ b _ D rfl H.out.map ?_; intro w0 hrg0 hg0 hs0)
  go_frame
  clear hs0
  go_loopw [5, 7] (fun i _ wr => ∃ left cnt, i = .int .i64 (dn L now left : Nat) ∧ Hid (wr.ranges Try.prog 9 ptrElem b w1.heap.size L.length D left cnt ∧ Below w1.heap.size w1 wr)) (fun _ _ wr => wr.rangeLeft b w1.heap.size)
  case atStart =>
    refine ⟨_, _, ?_, Lib.hid ⟨hrg0, (Below.refl _ _).grown hg0 (Nat.le_refl _) (fun k hk => by cases hk)⟩⟩
    have e : dn L now (Maps.has D) = 0 := by
      unfold dn
      rw [List.length_eq_zero_iff, List.filter_eq_nil_iff]
      intro x hx
      rw [H.out.has_yes ⟨x, hx, rfl⟩]
      simp
    rw [e]; rfl
  case round =>
    obtain ⟨left, cnt, rfl, hR⟩ := hrel
    go_wp2_with (at_next; refine wpList_next_nums rfl _ rfl rfl hR.out.1 H.out.reads ?_ ?_)
    · intro hl0
      go_wp2_with fail
      go_ret
      refine ⟨?_, hR.out.2⟩
      rw [← dn_end hl0]; rfl
    · intro zk zn ze w2 cnt2 hz hlk hrg2 hlt hg2 hen
      obtain ⟨z, rfl, rfl, rfl⟩ : ∃ z : Vr, z.1 = zk ∧ z.2.1 = zn ∧ z.2.2 = ze := ⟨(zk, zn, ze), rfl, rfl, rfl⟩
      have hz : z ∈ L := hz
      have k2 : Below w1.heap.size w1 w2 := hR.out.2.grown hg2 hR.out.2.size (fun k hk => by cases hk; exact Nat.le_refl _)
      have c2 := (H.out.below k2).endc hz
      have t1 := enc_live (now := now) (H.out.fits z hz).2.2
      have HK := Lib.hid k2
      have HR2 := Lib.hid hrg2
      have HZ := Lib.hid hlk
      have HM := Lib.hid (show cnt2 < wr.rangeLeft b w1.heap.size by rw [hR.out.1.left_eq]; exact hlt)
      have hdl := dn_le (L := L) (now := now) (left := left)
      have t3 : IntKind.i64.wrap ((dn L now left : Int) + 1) = (dn L now left : Int) + 1 := IntWalk.i64_in _ (by omega)
      have HT := Lib.hid t3
      clear k2 hrg2 hlt hlk hg2 t3 hdl
      cases hl : isLive now z with
      | true =>
        rw [hl] at t1
        have t2 := t1.symm
        clear t1
        go_wp2_with fail
        refine (there_calls _ _ now _ c2).mono ?_
        rintro e w3 ⟨rfl, hb⟩
        have k3 : Below w1.heap.size w1 w3 := HK.out.trans (hb.mono HK.out.size)
        have hrg3 := HR2.out.kept (grown_of_below hb) (by simp) (by simp)
        have HK3 := Lib.hid k3
        have HR3 := Lib.hid hrg3
        clear k3 hrg3
        have t3 := HT.out
        go_wp2_with fail
        go_roundw
        case rel =>
          refine ⟨_, _, ?_, Lib.hid ⟨HR3.out, HK3.out⟩⟩
          rw [dn_live hg hz hl HZ.out]
          push_cast
          rfl
        case measure => rw [HR3.out.left_eq]; exact HM.out
      | false =>
        rw [hl] at t1
        have t2 := t1.symm
        clear t1
        go_wp2_with fail
        refine (there_calls _ _ now _ c2).mono ?_
        rintro e w3 ⟨rfl, hb⟩
        have k3 : Below w1.heap.size w1 w3 := HK.out.trans (hb.mono HK.out.size)
        have hrg3 := HR2.out.kept (grown_of_below hb) (by simp) (by simp)
        have HK3 := Lib.hid k3
        have HR3 := Lib.hid hrg3
        clear k3 hrg3
        go_wp2_with fail
        go_roundw
        case rel =>
          refine ⟨_, _, ?_, Lib.hid ⟨HR3.out, HK3.out⟩⟩
          rw [dn_dead hg hz hl]
        case measure => rw [HR3.out.left_eq]; exact HM.out
end
end Go.Proofs.Ytekjohgnfplfjaa.Va
